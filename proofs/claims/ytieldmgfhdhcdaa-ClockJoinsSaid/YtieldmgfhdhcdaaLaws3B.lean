/-
  The walks of ClockJoins, ClockHas and ClockNone.
-/
import Derived.Test.YtieldmgfhdhcdaaLaws3A
namespace Go.Proofs.Ytieldmgfhdhcdaa
open Go.RowKit
attribute [local go_sem ↓] Go.wp_at_zero Go.wp_at_succ


set_option maxRecDepth 100000 in
set_option maxHeartbeats 4000000 in
theorem law_joins (a b c : Ck) (w : World) :
    Calls Try.prog 4 #[a.val, b.val, c.val] w fun e w' => e = .returned (.bool true) ∧ Below w.heap.size w w' := by
  have C0 := Lib.hid (fun w => shown_any w)
  have CJ := Lib.hid (fun w => join_any a b w)
  have CB := Lib.hid (fun w => by have := join_any b a w; rwa [← Ck.join_comm] at this)
  have CA := Lib.hid (fun w => by have := join_any a a w; rwa [Ck.join_self] at this)
  have CT := Lib.hid (fun w => join_any (Ck.join a b) c w)
  have CS := Lib.hid (fun w => join_any b c w)
  have CU := Lib.hid (fun w => by have := join_any a (Ck.join b c) w; rwa [← Ck.join_assoc] at this)
  have LA := Lib.hid (fun w => by have := le_any a (Ck.join a b) w; rwa [Ck.le_join_left] at this)
  have LB := Lib.hid (fun w => by have := le_any b (Ck.join a b) w; rwa [Ck.le_join_right] at this)
  have LQ := Lib.hid (fun w => le_any a b w)
  have LAC := Lib.hid (fun w => le_any a c w)
  have LBC := Lib.hid (fun w => le_any b c w)
  have LJC := Lib.hid (fun w => le_any (Ck.join a b) c w)
  have hjq := Ck.le_eq_join a b
  have hle : Ck.le a c = false ∨ (Ck.le a c = true ∧ Ck.le b c = false) ∨ (Ck.le a c = true ∧ Ck.le b c = true ∧ Ck.le (Ck.join a b) c = true) := by
    cases h1 : Ck.le a c
    · exact .inl rfl
    · cases h2 : Ck.le b c
      · exact .inr (.inl ⟨rfl, rfl⟩)
      · exact .inr (.inr ⟨rfl, rfl, Ck.join_least h1 h2⟩)
  generalize Ck.join (Ck.join a b) c = t at *
  generalize Ck.le (Ck.join a b) c = p3 at *
  generalize Ck.join a b = j at *
  generalize Ck.join b c = s at *
  generalize Ck.le a b = q at *
  generalize Ck.le a c = p1 at *
  generalize Ck.le b c = p2 at *
  have qj : ∀ w, _ := fun w => eq_same j w
  have qt : ∀ w, _ := fun w => eq_same t w
  have qa : ∀ w, _ := fun w => eq_same a w
  have qb : ∀ w, _ := fun w => by have := eq_two j b w; rwa [hjq] at this
  clear hjq
  unfold Ck.val at *
  rcases hle with rfl | ⟨rfl, rfl⟩ | ⟨rfl, rfl, rfl⟩
  all_goals
    go_enter Try.func4, Try.ntmps4
    go_wp2_with fail
    refine (C0.out _).mono ?_
    rintro e w1 ⟨rfl, hb1⟩
    have hz1 := hb1.size
    simp at hz1
    have ka := (((CkAt.new w a 23).alloc (.cells #[.int .i64 b.c0, .int .i64 b.c1, .int .i64 b.c2, .int .i64 b.c3, .int .i64 b.c4] 23)).alloc (.cells #[.int .i64 c.c0, .int .i64 c.c1, .int .i64 c.c2, .int .i64 c.c3, .int .i64 c.c4] 23)).up hb1
    have kb := ((CkAt.new (w.alloc (.cells #[.int .i64 a.c0, .int .i64 a.c1, .int .i64 a.c2, .int .i64 a.c3, .int .i64 a.c4] 23)) b 23).alloc (.cells #[.int .i64 c.c0, .int .i64 c.c1, .int .i64 c.c2, .int .i64 c.c3, .int .i64 c.c4] 23)).up hb1
    have kc := (CkAt.new ((w.alloc (.cells #[.int .i64 a.c0, .int .i64 a.c1, .int .i64 a.c2, .int .i64 a.c3, .int .i64 a.c4] 23)).alloc (.cells #[.int .i64 b.c0, .int .i64 b.c1, .int .i64 b.c2, .int .i64 b.c3, .int .i64 b.c4] 23)) c 23).up hb1
    simp only [World.size_alloc] at kb kc
    have B1 := Lib.hid (((((Below.refl w.heap.size w).alloc (Nat.le_refl _) _).alloc (by simp) _).alloc (by simp; omega) _).trans (hb1.mono (by simp; omega)))
    have KA := Lib.hid ka; have KB := Lib.hid kb; have KC := Lib.hid kc
    have ⟨a0, a1, a2, a3, a4⟩ := ka.cells
    have ⟨b0, b1, b2, b3, b4⟩ := kb.cells
    clear ka kb kc hb1
    go_wp2_with fail
    refine (CJ.out _).mono ?_
    rintro e w2 ⟨rfl, hb2⟩
    clear a0 a1 a2 a3 a4 b0 b1 b2 b3 b4
    have hz2 := hb2.size
    have u2 : Lex.Up w1 (w2.alloc (.cells #[.int .i64 j.c0, .int .i64 j.c1, .int .i64 j.c2, .int .i64 j.c3, .int .i64 j.c4] 23)) := hb2.trans ((Below.refl _ _).alloc hb2.size _)
    have B2 := Lib.hid (B1.out.trans (u2.mono (show w.heap.size ≤ w1.heap.size by omega)))
    have KA2 := Lib.hid (KA.out.up u2); have KB2 := Lib.hid (KB.out.up u2); have KC2 := Lib.hid (KC.out.up u2); have KJ2 := Lib.hid (CkAt.new w2 j 23)
    clear KA KB KC u2 hb2 B1
    have ⟨a0, a1, a2, a3, a4⟩ := KA2.out.cells
    have ⟨c0, c1, c2, c3, c4⟩ := KC2.out.cells
    go_wp2_with fail
    refine (LAC.out _).mono ?_
    rintro e w3 ⟨rfl, hb3⟩
    clear a0 a1 a2 a3 a4 c0 c1 c2 c3 c4
    have B3 := Lib.hid (B2.out.trans (hb3.mono (show w.heap.size ≤ _ by simp; omega)))
    have KA := Lib.hid (KA2.out.up hb3); have KB := Lib.hid (KB2.out.up hb3); have KC := Lib.hid (KC2.out.up hb3); have KJ := Lib.hid (KJ2.out.up hb3)
    have hz3 := B3.out.size
    clear KA2 KB2 KC2 KJ2 hb3 B2
  · go_wp2
    refine wp_named (fun W hW => ?_)
    have FA := Lib.hid (fun w' (h : Lex.Up W w') => ((by rw [hW]; exact KA.out : CkAt W w.heap.size a).up h).cells)
    have FB := Lib.hid (fun w' (h : Lex.Up W w') => ((by rw [hW]; exact KB.out : CkAt W (w.heap.size + 1) b).up h).cells)
    have FC := Lib.hid (fun w' (h : Lex.Up W w') => ((by rw [hW]; exact KC.out : CkAt W (w.heap.size + 1 + 1) c).up h).cells)
    have FJ := Lib.hid (fun w' (h : Lex.Up W w') => ((by rw [hW]; exact KJ.out : CkAt W w2.heap.size j).up h).cells)
    have BW := Lib.hid (show Below w.heap.size w W by rw [hW]; exact B3.out)
    clear KA KB KC KJ B3 hW
    refine Lex.wp_region_lex (by kernel_rfl) (by kernel_rfl) (by rfl) ?_
    repeat (first | (refine Lex.lex_skip (by rfl) (by rfl) (by rfl) ?_; simp only [Act.put, List.setIfInBounds_toArray, List.set_cons_zero, List.set_cons_succ]) | (refine Lex.lex_pure (c := ?_) (by rfl) (by rfl) (fun w' hC => ?_) (by rfl) ?_; rotate_left 1; (have ⟨a0, a1, a2, a3, a4⟩ := FA.out w' hC; have ⟨b0, b1, b2, b3, b4⟩ := FB.out w' hC; have ⟨j0, j1, j2, j3, j4⟩ := FJ.out w' hC; go_simp; rfl); simp only [Act.put, List.setIfInBounds_toArray, List.set_cons_zero, List.set_cons_succ]))
    refine Lex.lex_callv (f := 14) (args := #[.agg #[.int .i64 b.c0, .int .i64 b.c1, .int .i64 b.c2, .int .i64 b.c3, .int .i64 b.c4], .agg #[.int .i64 a.c0, .int .i64 a.c1, .int .i64 a.c2, .int .i64 a.c3, .int .i64 a.c4]]) (.agg #[.int .i64 j.c0, .int .i64 j.c1, .int .i64 j.c2, .int .i64 j.c3, .int .i64 j.c4]) (by rfl) (by rfl) (fun w' => by go_simp) (fun w' hC => CB.out w') (by rfl) ?_
    simp only [Act.put, List.setIfInBounds_toArray, List.set_cons_zero, List.set_cons_succ]
    repeat (first | (refine Lex.lex_skip (by rfl) (by rfl) (by rfl) ?_; simp only [Act.put, List.setIfInBounds_toArray, List.set_cons_zero, List.set_cons_succ]) | (refine Lex.lex_pure (c := ?_) (by rfl) (by rfl) (fun w' hC => ?_) (by rfl) ?_; rotate_left 1; (have ⟨c0, c1, c2, c3, c4⟩ := FC.out w' hC; have ⟨j0, j1, j2, j3, j4⟩ := FJ.out w' hC; go_simp; rfl); simp only [Act.put, List.setIfInBounds_toArray, List.set_cons_zero, List.set_cons_succ]))
    refine Lex.lex_callv (f := 14) (args := #[.agg #[.int .i64 j.c0, .int .i64 j.c1, .int .i64 j.c2, .int .i64 j.c3, .int .i64 j.c4], .agg #[.int .i64 c.c0, .int .i64 c.c1, .int .i64 c.c2, .int .i64 c.c3, .int .i64 c.c4]]) (.agg #[.int .i64 t.c0, .int .i64 t.c1, .int .i64 t.c2, .int .i64 t.c3, .int .i64 t.c4]) (by rfl) (by rfl) (fun w' => by go_simp) (fun w' hC => CT.out w') (by rfl) ?_
    simp only [Act.put, List.setIfInBounds_toArray, List.set_cons_zero, List.set_cons_succ]
    repeat (first | (refine Lex.lex_skip (by rfl) (by rfl) (by rfl) ?_; simp only [Act.put, List.setIfInBounds_toArray, List.set_cons_zero, List.set_cons_succ]) | (refine Lex.lex_pure (c := ?_) (by rfl) (by rfl) (fun w' hC => ?_) (by rfl) ?_; rotate_left 1; (have ⟨a0, a1, a2, a3, a4⟩ := FA.out w' hC; have ⟨b0, b1, b2, b3, b4⟩ := FB.out w' hC; have ⟨c0, c1, c2, c3, c4⟩ := FC.out w' hC; go_simp; rfl); simp only [Act.put, List.setIfInBounds_toArray, List.set_cons_zero, List.set_cons_succ]))
    refine Lex.lex_callv (f := 14) (args := #[.agg #[.int .i64 b.c0, .int .i64 b.c1, .int .i64 b.c2, .int .i64 b.c3, .int .i64 b.c4], .agg #[.int .i64 c.c0, .int .i64 c.c1, .int .i64 c.c2, .int .i64 c.c3, .int .i64 c.c4]]) (.agg #[.int .i64 s.c0, .int .i64 s.c1, .int .i64 s.c2, .int .i64 s.c3, .int .i64 s.c4]) (by rfl) (by rfl) (fun w' => by go_simp) (fun w' hC => CS.out w') (by rfl) ?_
    simp only [Act.put, List.setIfInBounds_toArray, List.set_cons_zero, List.set_cons_succ]
    repeat (first | (refine Lex.lex_skip (by rfl) (by rfl) (by rfl) ?_; simp only [Act.put, List.setIfInBounds_toArray, List.set_cons_zero, List.set_cons_succ]) | (refine Lex.lex_pure (c := ?_) (by rfl) (by rfl) (fun w' hC => ?_) (by rfl) ?_; rotate_left 1; (go_simp; rfl); simp only [Act.put, List.setIfInBounds_toArray, List.set_cons_zero, List.set_cons_succ]))
    refine Lex.lex_callv (f := 14) (args := #[.agg #[.int .i64 a.c0, .int .i64 a.c1, .int .i64 a.c2, .int .i64 a.c3, .int .i64 a.c4], .agg #[.int .i64 s.c0, .int .i64 s.c1, .int .i64 s.c2, .int .i64 s.c3, .int .i64 s.c4]]) (.agg #[.int .i64 t.c0, .int .i64 t.c1, .int .i64 t.c2, .int .i64 t.c3, .int .i64 t.c4]) (by rfl) (by rfl) (fun w' => by go_simp) (fun w' hC => CU.out w') (by rfl) ?_
    simp only [Act.put, List.setIfInBounds_toArray, List.set_cons_zero, List.set_cons_succ]
    repeat (first | (refine Lex.lex_skip (by rfl) (by rfl) (by rfl) ?_; simp only [Act.put, List.setIfInBounds_toArray, List.set_cons_zero, List.set_cons_succ]) | (refine Lex.lex_pure (c := ?_) (by rfl) (by rfl) (fun w' hC => ?_) (by rfl) ?_; rotate_left 1; (have ⟨a0, a1, a2, a3, a4⟩ := FA.out w' hC; go_simp; rfl); simp only [Act.put, List.setIfInBounds_toArray, List.set_cons_zero, List.set_cons_succ]))
    refine Lex.lex_callv (f := 14) (args := #[.agg #[.int .i64 a.c0, .int .i64 a.c1, .int .i64 a.c2, .int .i64 a.c3, .int .i64 a.c4], .agg #[.int .i64 a.c0, .int .i64 a.c1, .int .i64 a.c2, .int .i64 a.c3, .int .i64 a.c4]]) (.agg #[.int .i64 a.c0, .int .i64 a.c1, .int .i64 a.c2, .int .i64 a.c3, .int .i64 a.c4]) (by rfl) (by rfl) (fun w' => by go_simp) (fun w' hC => CA.out w') (by rfl) ?_
    simp only [Act.put, List.setIfInBounds_toArray, List.set_cons_zero, List.set_cons_succ]
    repeat (first | (refine Lex.lex_skip (by rfl) (by rfl) (by rfl) ?_; simp only [Act.put, List.setIfInBounds_toArray, List.set_cons_zero, List.set_cons_succ]) | (refine Lex.lex_pure (c := ?_) (by rfl) (by rfl) (fun w' hC => ?_) (by rfl) ?_; rotate_left 1; (have ⟨a0, a1, a2, a3, a4⟩ := FA.out w' hC; have ⟨j0, j1, j2, j3, j4⟩ := FJ.out w' hC; go_simp; rfl); simp only [Act.put, List.setIfInBounds_toArray, List.set_cons_zero, List.set_cons_succ]))
    refine Lex.lex_callv (f := 16) (args := #[.agg #[.int .i64 a.c0, .int .i64 a.c1, .int .i64 a.c2, .int .i64 a.c3, .int .i64 a.c4], .agg #[.int .i64 j.c0, .int .i64 j.c1, .int .i64 j.c2, .int .i64 j.c3, .int .i64 j.c4]]) (.bool true) (by rfl) (by rfl) (fun w' => by go_simp) (fun w' hC => LA.out w') (by rfl) ?_
    simp only [Act.put, List.setIfInBounds_toArray, List.set_cons_zero, List.set_cons_succ]
    repeat (first | (refine Lex.lex_skip (by rfl) (by rfl) (by rfl) ?_; simp only [Act.put, List.setIfInBounds_toArray, List.set_cons_zero, List.set_cons_succ]) | (refine Lex.lex_pure (c := ?_) (by rfl) (by rfl) (fun w' hC => ?_) (by rfl) ?_; rotate_left 1; (have ⟨b0, b1, b2, b3, b4⟩ := FB.out w' hC; have ⟨j0, j1, j2, j3, j4⟩ := FJ.out w' hC; go_simp; rfl); simp only [Act.put, List.setIfInBounds_toArray, List.set_cons_zero, List.set_cons_succ]))
    refine Lex.lex_callv (f := 16) (args := #[.agg #[.int .i64 b.c0, .int .i64 b.c1, .int .i64 b.c2, .int .i64 b.c3, .int .i64 b.c4], .agg #[.int .i64 j.c0, .int .i64 j.c1, .int .i64 j.c2, .int .i64 j.c3, .int .i64 j.c4]]) (.bool true) (by rfl) (by rfl) (fun w' => by go_simp) (fun w' hC => LB.out w') (by rfl) ?_
    simp only [Act.put, List.setIfInBounds_toArray, List.set_cons_zero, List.set_cons_succ]
    repeat (first | (refine Lex.lex_skip (by rfl) (by rfl) (by rfl) ?_; simp only [Act.put, List.setIfInBounds_toArray, List.set_cons_zero, List.set_cons_succ]) | (refine Lex.lex_pure (c := ?_) (by rfl) (by rfl) (fun w' hC => ?_) (by rfl) ?_; rotate_left 1; (have ⟨a0, a1, a2, a3, a4⟩ := FA.out w' hC; have ⟨b0, b1, b2, b3, b4⟩ := FB.out w' hC; go_simp; rfl); simp only [Act.put, List.setIfInBounds_toArray, List.set_cons_zero, List.set_cons_succ]))
    refine Lex.lex_callv (f := 16) (args := #[.agg #[.int .i64 a.c0, .int .i64 a.c1, .int .i64 a.c2, .int .i64 a.c3, .int .i64 a.c4], .agg #[.int .i64 b.c0, .int .i64 b.c1, .int .i64 b.c2, .int .i64 b.c3, .int .i64 b.c4]]) (.bool q) (by rfl) (by rfl) (fun w' => by go_simp) (fun w' hC => LQ.out w') (by rfl) ?_
    simp only [Act.put, List.setIfInBounds_toArray, List.set_cons_zero, List.set_cons_succ]
    repeat (first | (refine Lex.lex_skip (by rfl) (by rfl) (by rfl) ?_; simp only [Act.put, List.setIfInBounds_toArray, List.set_cons_zero, List.set_cons_succ]) | (refine Lex.lex_pure (c := ?_) (by rfl) (by rfl) (fun w' hC => ?_) (by rfl) ?_; rotate_left 1; (have ⟨b0, b1, b2, b3, b4⟩ := FB.out w' hC; have ⟨j0, j1, j2, j3, j4⟩ := FJ.out w' hC; go_simp; rfl); simp only [Act.put, List.setIfInBounds_toArray, List.set_cons_zero, List.set_cons_succ]))
    refine Lex.lex_nil (fun w5 hC => ?_)
    simp only [Lex.fill]
    have hB := Lib.hid (BW.out.trans (hC.mono BW.out.size))
    clear hC
    go_wp2
    go_ret
    exact ⟨rfl, hB.out⟩
  · have ⟨a0, a1, a2, a3, a4⟩ := KB.out.cells
    have ⟨c0, c1, c2, c3, c4⟩ := KC.out.cells
    go_wp2_with fail
    refine (LBC.out _).mono ?_
    rintro e w4 ⟨rfl, hb4⟩
    clear a0 a1 a2 a3 a4 c0 c1 c2 c3 c4
    have B4 := Lib.hid (B3.out.trans (hb4.mono hz3))
    have KA2 := Lib.hid (KA.out.up hb4); have KB2 := Lib.hid (KB.out.up hb4); have KC2 := Lib.hid (KC.out.up hb4); have KJ2 := Lib.hid (KJ.out.up hb4)
    clear KA KB KC KJ hb4 B3 hz3
    have hz3 := B4.out.size
    have B3 := B4; have KA := KA2; have KB := KB2; have KC := KC2; have KJ := KJ2
    clear KA2 KB2 KC2 KJ2 B4
    go_wp2
    refine wp_named (fun W hW => ?_)
    have FA := Lib.hid (fun w' (h : Lex.Up W w') => ((by rw [hW]; exact KA.out : CkAt W w.heap.size a).up h).cells)
    have FB := Lib.hid (fun w' (h : Lex.Up W w') => ((by rw [hW]; exact KB.out : CkAt W (w.heap.size + 1) b).up h).cells)
    have FC := Lib.hid (fun w' (h : Lex.Up W w') => ((by rw [hW]; exact KC.out : CkAt W (w.heap.size + 1 + 1) c).up h).cells)
    have FJ := Lib.hid (fun w' (h : Lex.Up W w') => ((by rw [hW]; exact KJ.out : CkAt W w2.heap.size j).up h).cells)
    have BW := Lib.hid (show Below w.heap.size w W by rw [hW]; exact B3.out)
    clear KA KB KC KJ B3 hW
    refine Lex.wp_region_lex (by kernel_rfl) (by kernel_rfl) (by rfl) ?_
    repeat (first | (refine Lex.lex_skip (by rfl) (by rfl) (by rfl) ?_; simp only [Act.put, List.setIfInBounds_toArray, List.set_cons_zero, List.set_cons_succ]) | (refine Lex.lex_pure (c := ?_) (by rfl) (by rfl) (fun w' hC => ?_) (by rfl) ?_; rotate_left 1; (have ⟨a0, a1, a2, a3, a4⟩ := FA.out w' hC; have ⟨b0, b1, b2, b3, b4⟩ := FB.out w' hC; have ⟨j0, j1, j2, j3, j4⟩ := FJ.out w' hC; go_simp; rfl); simp only [Act.put, List.setIfInBounds_toArray, List.set_cons_zero, List.set_cons_succ]))
    refine Lex.lex_callv (f := 14) (args := #[.agg #[.int .i64 b.c0, .int .i64 b.c1, .int .i64 b.c2, .int .i64 b.c3, .int .i64 b.c4], .agg #[.int .i64 a.c0, .int .i64 a.c1, .int .i64 a.c2, .int .i64 a.c3, .int .i64 a.c4]]) (.agg #[.int .i64 j.c0, .int .i64 j.c1, .int .i64 j.c2, .int .i64 j.c3, .int .i64 j.c4]) (by rfl) (by rfl) (fun w' => by go_simp) (fun w' hC => CB.out w') (by rfl) ?_
    simp only [Act.put, List.setIfInBounds_toArray, List.set_cons_zero, List.set_cons_succ]
    repeat (first | (refine Lex.lex_skip (by rfl) (by rfl) (by rfl) ?_; simp only [Act.put, List.setIfInBounds_toArray, List.set_cons_zero, List.set_cons_succ]) | (refine Lex.lex_pure (c := ?_) (by rfl) (by rfl) (fun w' hC => ?_) (by rfl) ?_; rotate_left 1; (have ⟨c0, c1, c2, c3, c4⟩ := FC.out w' hC; have ⟨j0, j1, j2, j3, j4⟩ := FJ.out w' hC; go_simp; rfl); simp only [Act.put, List.setIfInBounds_toArray, List.set_cons_zero, List.set_cons_succ]))
    refine Lex.lex_callv (f := 14) (args := #[.agg #[.int .i64 j.c0, .int .i64 j.c1, .int .i64 j.c2, .int .i64 j.c3, .int .i64 j.c4], .agg #[.int .i64 c.c0, .int .i64 c.c1, .int .i64 c.c2, .int .i64 c.c3, .int .i64 c.c4]]) (.agg #[.int .i64 t.c0, .int .i64 t.c1, .int .i64 t.c2, .int .i64 t.c3, .int .i64 t.c4]) (by rfl) (by rfl) (fun w' => by go_simp) (fun w' hC => CT.out w') (by rfl) ?_
    simp only [Act.put, List.setIfInBounds_toArray, List.set_cons_zero, List.set_cons_succ]
    repeat (first | (refine Lex.lex_skip (by rfl) (by rfl) (by rfl) ?_; simp only [Act.put, List.setIfInBounds_toArray, List.set_cons_zero, List.set_cons_succ]) | (refine Lex.lex_pure (c := ?_) (by rfl) (by rfl) (fun w' hC => ?_) (by rfl) ?_; rotate_left 1; (have ⟨a0, a1, a2, a3, a4⟩ := FA.out w' hC; have ⟨b0, b1, b2, b3, b4⟩ := FB.out w' hC; have ⟨c0, c1, c2, c3, c4⟩ := FC.out w' hC; go_simp; rfl); simp only [Act.put, List.setIfInBounds_toArray, List.set_cons_zero, List.set_cons_succ]))
    refine Lex.lex_callv (f := 14) (args := #[.agg #[.int .i64 b.c0, .int .i64 b.c1, .int .i64 b.c2, .int .i64 b.c3, .int .i64 b.c4], .agg #[.int .i64 c.c0, .int .i64 c.c1, .int .i64 c.c2, .int .i64 c.c3, .int .i64 c.c4]]) (.agg #[.int .i64 s.c0, .int .i64 s.c1, .int .i64 s.c2, .int .i64 s.c3, .int .i64 s.c4]) (by rfl) (by rfl) (fun w' => by go_simp) (fun w' hC => CS.out w') (by rfl) ?_
    simp only [Act.put, List.setIfInBounds_toArray, List.set_cons_zero, List.set_cons_succ]
    repeat (first | (refine Lex.lex_skip (by rfl) (by rfl) (by rfl) ?_; simp only [Act.put, List.setIfInBounds_toArray, List.set_cons_zero, List.set_cons_succ]) | (refine Lex.lex_pure (c := ?_) (by rfl) (by rfl) (fun w' hC => ?_) (by rfl) ?_; rotate_left 1; (go_simp; rfl); simp only [Act.put, List.setIfInBounds_toArray, List.set_cons_zero, List.set_cons_succ]))
    refine Lex.lex_callv (f := 14) (args := #[.agg #[.int .i64 a.c0, .int .i64 a.c1, .int .i64 a.c2, .int .i64 a.c3, .int .i64 a.c4], .agg #[.int .i64 s.c0, .int .i64 s.c1, .int .i64 s.c2, .int .i64 s.c3, .int .i64 s.c4]]) (.agg #[.int .i64 t.c0, .int .i64 t.c1, .int .i64 t.c2, .int .i64 t.c3, .int .i64 t.c4]) (by rfl) (by rfl) (fun w' => by go_simp) (fun w' hC => CU.out w') (by rfl) ?_
    simp only [Act.put, List.setIfInBounds_toArray, List.set_cons_zero, List.set_cons_succ]
    repeat (first | (refine Lex.lex_skip (by rfl) (by rfl) (by rfl) ?_; simp only [Act.put, List.setIfInBounds_toArray, List.set_cons_zero, List.set_cons_succ]) | (refine Lex.lex_pure (c := ?_) (by rfl) (by rfl) (fun w' hC => ?_) (by rfl) ?_; rotate_left 1; (have ⟨a0, a1, a2, a3, a4⟩ := FA.out w' hC; go_simp; rfl); simp only [Act.put, List.setIfInBounds_toArray, List.set_cons_zero, List.set_cons_succ]))
    refine Lex.lex_callv (f := 14) (args := #[.agg #[.int .i64 a.c0, .int .i64 a.c1, .int .i64 a.c2, .int .i64 a.c3, .int .i64 a.c4], .agg #[.int .i64 a.c0, .int .i64 a.c1, .int .i64 a.c2, .int .i64 a.c3, .int .i64 a.c4]]) (.agg #[.int .i64 a.c0, .int .i64 a.c1, .int .i64 a.c2, .int .i64 a.c3, .int .i64 a.c4]) (by rfl) (by rfl) (fun w' => by go_simp) (fun w' hC => CA.out w') (by rfl) ?_
    simp only [Act.put, List.setIfInBounds_toArray, List.set_cons_zero, List.set_cons_succ]
    repeat (first | (refine Lex.lex_skip (by rfl) (by rfl) (by rfl) ?_; simp only [Act.put, List.setIfInBounds_toArray, List.set_cons_zero, List.set_cons_succ]) | (refine Lex.lex_pure (c := ?_) (by rfl) (by rfl) (fun w' hC => ?_) (by rfl) ?_; rotate_left 1; (have ⟨a0, a1, a2, a3, a4⟩ := FA.out w' hC; have ⟨j0, j1, j2, j3, j4⟩ := FJ.out w' hC; go_simp; rfl); simp only [Act.put, List.setIfInBounds_toArray, List.set_cons_zero, List.set_cons_succ]))
    refine Lex.lex_callv (f := 16) (args := #[.agg #[.int .i64 a.c0, .int .i64 a.c1, .int .i64 a.c2, .int .i64 a.c3, .int .i64 a.c4], .agg #[.int .i64 j.c0, .int .i64 j.c1, .int .i64 j.c2, .int .i64 j.c3, .int .i64 j.c4]]) (.bool true) (by rfl) (by rfl) (fun w' => by go_simp) (fun w' hC => LA.out w') (by rfl) ?_
    simp only [Act.put, List.setIfInBounds_toArray, List.set_cons_zero, List.set_cons_succ]
    repeat (first | (refine Lex.lex_skip (by rfl) (by rfl) (by rfl) ?_; simp only [Act.put, List.setIfInBounds_toArray, List.set_cons_zero, List.set_cons_succ]) | (refine Lex.lex_pure (c := ?_) (by rfl) (by rfl) (fun w' hC => ?_) (by rfl) ?_; rotate_left 1; (have ⟨b0, b1, b2, b3, b4⟩ := FB.out w' hC; have ⟨j0, j1, j2, j3, j4⟩ := FJ.out w' hC; go_simp; rfl); simp only [Act.put, List.setIfInBounds_toArray, List.set_cons_zero, List.set_cons_succ]))
    refine Lex.lex_callv (f := 16) (args := #[.agg #[.int .i64 b.c0, .int .i64 b.c1, .int .i64 b.c2, .int .i64 b.c3, .int .i64 b.c4], .agg #[.int .i64 j.c0, .int .i64 j.c1, .int .i64 j.c2, .int .i64 j.c3, .int .i64 j.c4]]) (.bool true) (by rfl) (by rfl) (fun w' => by go_simp) (fun w' hC => LB.out w') (by rfl) ?_
    simp only [Act.put, List.setIfInBounds_toArray, List.set_cons_zero, List.set_cons_succ]
    repeat (first | (refine Lex.lex_skip (by rfl) (by rfl) (by rfl) ?_; simp only [Act.put, List.setIfInBounds_toArray, List.set_cons_zero, List.set_cons_succ]) | (refine Lex.lex_pure (c := ?_) (by rfl) (by rfl) (fun w' hC => ?_) (by rfl) ?_; rotate_left 1; (have ⟨a0, a1, a2, a3, a4⟩ := FA.out w' hC; have ⟨b0, b1, b2, b3, b4⟩ := FB.out w' hC; go_simp; rfl); simp only [Act.put, List.setIfInBounds_toArray, List.set_cons_zero, List.set_cons_succ]))
    refine Lex.lex_callv (f := 16) (args := #[.agg #[.int .i64 a.c0, .int .i64 a.c1, .int .i64 a.c2, .int .i64 a.c3, .int .i64 a.c4], .agg #[.int .i64 b.c0, .int .i64 b.c1, .int .i64 b.c2, .int .i64 b.c3, .int .i64 b.c4]]) (.bool q) (by rfl) (by rfl) (fun w' => by go_simp) (fun w' hC => LQ.out w') (by rfl) ?_
    simp only [Act.put, List.setIfInBounds_toArray, List.set_cons_zero, List.set_cons_succ]
    repeat (first | (refine Lex.lex_skip (by rfl) (by rfl) (by rfl) ?_; simp only [Act.put, List.setIfInBounds_toArray, List.set_cons_zero, List.set_cons_succ]) | (refine Lex.lex_pure (c := ?_) (by rfl) (by rfl) (fun w' hC => ?_) (by rfl) ?_; rotate_left 1; (have ⟨b0, b1, b2, b3, b4⟩ := FB.out w' hC; have ⟨j0, j1, j2, j3, j4⟩ := FJ.out w' hC; go_simp; rfl); simp only [Act.put, List.setIfInBounds_toArray, List.set_cons_zero, List.set_cons_succ]))
    refine Lex.lex_nil (fun w5 hC => ?_)
    simp only [Lex.fill]
    have hB := Lib.hid (BW.out.trans (hC.mono BW.out.size))
    clear hC
    go_wp2
    go_ret
    exact ⟨rfl, hB.out⟩
  · have ⟨a0, a1, a2, a3, a4⟩ := KB.out.cells
    have ⟨c0, c1, c2, c3, c4⟩ := KC.out.cells
    go_wp2_with fail
    refine (LBC.out _).mono ?_
    rintro e w4 ⟨rfl, hb4⟩
    clear a0 a1 a2 a3 a4 c0 c1 c2 c3 c4
    have B4 := Lib.hid (B3.out.trans (hb4.mono hz3))
    have KA2 := Lib.hid (KA.out.up hb4); have KB2 := Lib.hid (KB.out.up hb4); have KC2 := Lib.hid (KC.out.up hb4); have KJ2 := Lib.hid (KJ.out.up hb4)
    clear KA KB KC KJ hb4 B3 hz3
    have hz3 := B4.out.size
    have B3 := B4; have KA := KA2; have KB := KB2; have KC := KC2; have KJ := KJ2
    clear KA2 KB2 KC2 KJ2 B4
    have ⟨a0, a1, a2, a3, a4⟩ := KJ.out.cells
    have ⟨c0, c1, c2, c3, c4⟩ := KC.out.cells
    go_wp2_with fail
    refine (LJC.out _).mono ?_
    rintro e w5 ⟨rfl, hb4⟩
    clear a0 a1 a2 a3 a4 c0 c1 c2 c3 c4
    have B4 := Lib.hid (B3.out.trans (hb4.mono hz3))
    have KA2 := Lib.hid (KA.out.up hb4); have KB2 := Lib.hid (KB.out.up hb4); have KC2 := Lib.hid (KC.out.up hb4); have KJ2 := Lib.hid (KJ.out.up hb4)
    clear KA KB KC KJ hb4 B3 hz3
    have hz3 := B4.out.size
    have B3 := B4; have KA := KA2; have KB := KB2; have KC := KC2; have KJ := KJ2
    clear KA2 KB2 KC2 KJ2 B4
    go_wp2
    refine wp_named (fun W hW => ?_)
    have FA := Lib.hid (fun w' (h : Lex.Up W w') => ((by rw [hW]; exact KA.out : CkAt W w.heap.size a).up h).cells)
    have FB := Lib.hid (fun w' (h : Lex.Up W w') => ((by rw [hW]; exact KB.out : CkAt W (w.heap.size + 1) b).up h).cells)
    have FC := Lib.hid (fun w' (h : Lex.Up W w') => ((by rw [hW]; exact KC.out : CkAt W (w.heap.size + 1 + 1) c).up h).cells)
    have FJ := Lib.hid (fun w' (h : Lex.Up W w') => ((by rw [hW]; exact KJ.out : CkAt W w2.heap.size j).up h).cells)
    have BW := Lib.hid (show Below w.heap.size w W by rw [hW]; exact B3.out)
    clear KA KB KC KJ B3 hW
    refine Lex.wp_region_lex (by kernel_rfl) (by kernel_rfl) (by rfl) ?_
    repeat (first | (refine Lex.lex_skip (by rfl) (by rfl) (by rfl) ?_; simp only [Act.put, List.setIfInBounds_toArray, List.set_cons_zero, List.set_cons_succ]) | (refine Lex.lex_pure (c := ?_) (by rfl) (by rfl) (fun w' hC => ?_) (by rfl) ?_; rotate_left 1; (have ⟨a0, a1, a2, a3, a4⟩ := FA.out w' hC; have ⟨b0, b1, b2, b3, b4⟩ := FB.out w' hC; have ⟨j0, j1, j2, j3, j4⟩ := FJ.out w' hC; go_simp; rfl); simp only [Act.put, List.setIfInBounds_toArray, List.set_cons_zero, List.set_cons_succ]))
    refine Lex.lex_callv (f := 14) (args := #[.agg #[.int .i64 b.c0, .int .i64 b.c1, .int .i64 b.c2, .int .i64 b.c3, .int .i64 b.c4], .agg #[.int .i64 a.c0, .int .i64 a.c1, .int .i64 a.c2, .int .i64 a.c3, .int .i64 a.c4]]) (.agg #[.int .i64 j.c0, .int .i64 j.c1, .int .i64 j.c2, .int .i64 j.c3, .int .i64 j.c4]) (by rfl) (by rfl) (fun w' => by go_simp) (fun w' hC => CB.out w') (by rfl) ?_
    simp only [Act.put, List.setIfInBounds_toArray, List.set_cons_zero, List.set_cons_succ]
    repeat (first | (refine Lex.lex_skip (by rfl) (by rfl) (by rfl) ?_; simp only [Act.put, List.setIfInBounds_toArray, List.set_cons_zero, List.set_cons_succ]) | (refine Lex.lex_pure (c := ?_) (by rfl) (by rfl) (fun w' hC => ?_) (by rfl) ?_; rotate_left 1; (have ⟨c0, c1, c2, c3, c4⟩ := FC.out w' hC; have ⟨j0, j1, j2, j3, j4⟩ := FJ.out w' hC; go_simp; rfl); simp only [Act.put, List.setIfInBounds_toArray, List.set_cons_zero, List.set_cons_succ]))
    refine Lex.lex_callv (f := 14) (args := #[.agg #[.int .i64 j.c0, .int .i64 j.c1, .int .i64 j.c2, .int .i64 j.c3, .int .i64 j.c4], .agg #[.int .i64 c.c0, .int .i64 c.c1, .int .i64 c.c2, .int .i64 c.c3, .int .i64 c.c4]]) (.agg #[.int .i64 t.c0, .int .i64 t.c1, .int .i64 t.c2, .int .i64 t.c3, .int .i64 t.c4]) (by rfl) (by rfl) (fun w' => by go_simp) (fun w' hC => CT.out w') (by rfl) ?_
    simp only [Act.put, List.setIfInBounds_toArray, List.set_cons_zero, List.set_cons_succ]
    repeat (first | (refine Lex.lex_skip (by rfl) (by rfl) (by rfl) ?_; simp only [Act.put, List.setIfInBounds_toArray, List.set_cons_zero, List.set_cons_succ]) | (refine Lex.lex_pure (c := ?_) (by rfl) (by rfl) (fun w' hC => ?_) (by rfl) ?_; rotate_left 1; (have ⟨a0, a1, a2, a3, a4⟩ := FA.out w' hC; have ⟨b0, b1, b2, b3, b4⟩ := FB.out w' hC; have ⟨c0, c1, c2, c3, c4⟩ := FC.out w' hC; go_simp; rfl); simp only [Act.put, List.setIfInBounds_toArray, List.set_cons_zero, List.set_cons_succ]))
    refine Lex.lex_callv (f := 14) (args := #[.agg #[.int .i64 b.c0, .int .i64 b.c1, .int .i64 b.c2, .int .i64 b.c3, .int .i64 b.c4], .agg #[.int .i64 c.c0, .int .i64 c.c1, .int .i64 c.c2, .int .i64 c.c3, .int .i64 c.c4]]) (.agg #[.int .i64 s.c0, .int .i64 s.c1, .int .i64 s.c2, .int .i64 s.c3, .int .i64 s.c4]) (by rfl) (by rfl) (fun w' => by go_simp) (fun w' hC => CS.out w') (by rfl) ?_
    simp only [Act.put, List.setIfInBounds_toArray, List.set_cons_zero, List.set_cons_succ]
    repeat (first | (refine Lex.lex_skip (by rfl) (by rfl) (by rfl) ?_; simp only [Act.put, List.setIfInBounds_toArray, List.set_cons_zero, List.set_cons_succ]) | (refine Lex.lex_pure (c := ?_) (by rfl) (by rfl) (fun w' hC => ?_) (by rfl) ?_; rotate_left 1; (go_simp; rfl); simp only [Act.put, List.setIfInBounds_toArray, List.set_cons_zero, List.set_cons_succ]))
    refine Lex.lex_callv (f := 14) (args := #[.agg #[.int .i64 a.c0, .int .i64 a.c1, .int .i64 a.c2, .int .i64 a.c3, .int .i64 a.c4], .agg #[.int .i64 s.c0, .int .i64 s.c1, .int .i64 s.c2, .int .i64 s.c3, .int .i64 s.c4]]) (.agg #[.int .i64 t.c0, .int .i64 t.c1, .int .i64 t.c2, .int .i64 t.c3, .int .i64 t.c4]) (by rfl) (by rfl) (fun w' => by go_simp) (fun w' hC => CU.out w') (by rfl) ?_
    simp only [Act.put, List.setIfInBounds_toArray, List.set_cons_zero, List.set_cons_succ]
    repeat (first | (refine Lex.lex_skip (by rfl) (by rfl) (by rfl) ?_; simp only [Act.put, List.setIfInBounds_toArray, List.set_cons_zero, List.set_cons_succ]) | (refine Lex.lex_pure (c := ?_) (by rfl) (by rfl) (fun w' hC => ?_) (by rfl) ?_; rotate_left 1; (have ⟨a0, a1, a2, a3, a4⟩ := FA.out w' hC; go_simp; rfl); simp only [Act.put, List.setIfInBounds_toArray, List.set_cons_zero, List.set_cons_succ]))
    refine Lex.lex_callv (f := 14) (args := #[.agg #[.int .i64 a.c0, .int .i64 a.c1, .int .i64 a.c2, .int .i64 a.c3, .int .i64 a.c4], .agg #[.int .i64 a.c0, .int .i64 a.c1, .int .i64 a.c2, .int .i64 a.c3, .int .i64 a.c4]]) (.agg #[.int .i64 a.c0, .int .i64 a.c1, .int .i64 a.c2, .int .i64 a.c3, .int .i64 a.c4]) (by rfl) (by rfl) (fun w' => by go_simp) (fun w' hC => CA.out w') (by rfl) ?_
    simp only [Act.put, List.setIfInBounds_toArray, List.set_cons_zero, List.set_cons_succ]
    repeat (first | (refine Lex.lex_skip (by rfl) (by rfl) (by rfl) ?_; simp only [Act.put, List.setIfInBounds_toArray, List.set_cons_zero, List.set_cons_succ]) | (refine Lex.lex_pure (c := ?_) (by rfl) (by rfl) (fun w' hC => ?_) (by rfl) ?_; rotate_left 1; (have ⟨a0, a1, a2, a3, a4⟩ := FA.out w' hC; have ⟨j0, j1, j2, j3, j4⟩ := FJ.out w' hC; go_simp; rfl); simp only [Act.put, List.setIfInBounds_toArray, List.set_cons_zero, List.set_cons_succ]))
    refine Lex.lex_callv (f := 16) (args := #[.agg #[.int .i64 a.c0, .int .i64 a.c1, .int .i64 a.c2, .int .i64 a.c3, .int .i64 a.c4], .agg #[.int .i64 j.c0, .int .i64 j.c1, .int .i64 j.c2, .int .i64 j.c3, .int .i64 j.c4]]) (.bool true) (by rfl) (by rfl) (fun w' => by go_simp) (fun w' hC => LA.out w') (by rfl) ?_
    simp only [Act.put, List.setIfInBounds_toArray, List.set_cons_zero, List.set_cons_succ]
    repeat (first | (refine Lex.lex_skip (by rfl) (by rfl) (by rfl) ?_; simp only [Act.put, List.setIfInBounds_toArray, List.set_cons_zero, List.set_cons_succ]) | (refine Lex.lex_pure (c := ?_) (by rfl) (by rfl) (fun w' hC => ?_) (by rfl) ?_; rotate_left 1; (have ⟨b0, b1, b2, b3, b4⟩ := FB.out w' hC; have ⟨j0, j1, j2, j3, j4⟩ := FJ.out w' hC; go_simp; rfl); simp only [Act.put, List.setIfInBounds_toArray, List.set_cons_zero, List.set_cons_succ]))
    refine Lex.lex_callv (f := 16) (args := #[.agg #[.int .i64 b.c0, .int .i64 b.c1, .int .i64 b.c2, .int .i64 b.c3, .int .i64 b.c4], .agg #[.int .i64 j.c0, .int .i64 j.c1, .int .i64 j.c2, .int .i64 j.c3, .int .i64 j.c4]]) (.bool true) (by rfl) (by rfl) (fun w' => by go_simp) (fun w' hC => LB.out w') (by rfl) ?_
    simp only [Act.put, List.setIfInBounds_toArray, List.set_cons_zero, List.set_cons_succ]
    repeat (first | (refine Lex.lex_skip (by rfl) (by rfl) (by rfl) ?_; simp only [Act.put, List.setIfInBounds_toArray, List.set_cons_zero, List.set_cons_succ]) | (refine Lex.lex_pure (c := ?_) (by rfl) (by rfl) (fun w' hC => ?_) (by rfl) ?_; rotate_left 1; (have ⟨a0, a1, a2, a3, a4⟩ := FA.out w' hC; have ⟨b0, b1, b2, b3, b4⟩ := FB.out w' hC; go_simp; rfl); simp only [Act.put, List.setIfInBounds_toArray, List.set_cons_zero, List.set_cons_succ]))
    refine Lex.lex_callv (f := 16) (args := #[.agg #[.int .i64 a.c0, .int .i64 a.c1, .int .i64 a.c2, .int .i64 a.c3, .int .i64 a.c4], .agg #[.int .i64 b.c0, .int .i64 b.c1, .int .i64 b.c2, .int .i64 b.c3, .int .i64 b.c4]]) (.bool q) (by rfl) (by rfl) (fun w' => by go_simp) (fun w' hC => LQ.out w') (by rfl) ?_
    simp only [Act.put, List.setIfInBounds_toArray, List.set_cons_zero, List.set_cons_succ]
    repeat (first | (refine Lex.lex_skip (by rfl) (by rfl) (by rfl) ?_; simp only [Act.put, List.setIfInBounds_toArray, List.set_cons_zero, List.set_cons_succ]) | (refine Lex.lex_pure (c := ?_) (by rfl) (by rfl) (fun w' hC => ?_) (by rfl) ?_; rotate_left 1; (have ⟨b0, b1, b2, b3, b4⟩ := FB.out w' hC; have ⟨j0, j1, j2, j3, j4⟩ := FJ.out w' hC; go_simp; rfl); simp only [Act.put, List.setIfInBounds_toArray, List.set_cons_zero, List.set_cons_succ]))
    refine Lex.lex_nil (fun w5 hC => ?_)
    simp only [Lex.fill]
    have hB := Lib.hid (BW.out.trans (hC.mono BW.out.size))
    clear hC
    go_wp2
    go_ret
    exact ⟨rfl, hB.out⟩
end Go.Proofs.Ytieldmgfhdhcdaa
