/-
  The walks of ClockHas and ClockNone.
-/
import Derived.Test.YtieldmgfhdhcdaaLaws3A
namespace Go.Proofs.Ytieldmgfhdhcdaa
open Go.RowKit
attribute [local go_sem ↓] Go.wp_at_zero Go.wp_at_succ

set_option maxRecDepth 100000 in
set_option maxHeartbeats 4000000 in
theorem law_has (a b : Ck) (r n : Int) (w : World) :
    Calls Try.prog 5 #[a.val, b.val, .agg #[.int .i64 r, .int .i64 n]] w fun e w' => e = .returned (.bool true) ∧ Below w.heap.size w w' := by
  have C0 := Lib.hid (fun w => shown_any w)
  have CJ := Lib.hid (fun w => join_any a b w)
  have HA := Lib.hid (fun w => has_any a r n w)
  have HB := Lib.hid (fun w => has_any b r n w)
  have HJ := Lib.hid (fun w => has_any (Ck.join a b) r n w)
  have H0 := Lib.hid (fun w => by have := has_any a r 0 w; rwa [Ck.has_none a r 0 (by omega)] at this)
  have HL := Lib.hid (fun w => by have := has_any a (-1 - r % 1024) n w; rwa [Ck.has_none a _ n (by omega)] at this)
  have HH := Lib.hid (fun w => by have := has_any a (5 + r % 1024) n w; rwa [Ck.has_none a _ n (by omega)] at this)
  have LE := Lib.hid (fun w => le_any a b w)
  have X1 : Hid (IntKind.i64.wrap (-1 - r % 1024) = -1 - r % 1024) := Lib.hid (IntWalk.i64_in _ ⟨by omega, by omega⟩)
  have X2 : Hid (IntKind.i64.wrap (5 + r % 1024) = 5 + r % 1024) := Lib.hid (IntWalk.i64_in _ ⟨by omega, by omega⟩)
  have hm := i64_and1023 r
  have hle : (Ck.has a r n = true → Ck.has b r n = false → Ck.le a b = false) := Ck.has_le
  have hj := Ck.has_join a b r n
  generalize Ck.has (Ck.join a b) r n = h3 at *
  generalize Ck.has a r n = h1 at *
  generalize Ck.has b r n = h2 at *
  generalize Ck.le a b = l at *
  generalize Ck.join a b = j at *
  unfold Ck.val at *
  subst hj
  cases h1 <;> cases h2
  all_goals
    simp at hle
    try subst hle
    go_enter Try.func5, Try.ntmps5
    go_wp2_with fail
    refine (C0.out _).mono ?_
    rintro e w1 ⟨rfl, hb1⟩
    have hz1 := hb1.size
    simp at hz1
    have ka := (((CkAt.new w a 23).alloc (.cells #[.int .i64 b.c0, .int .i64 b.c1, .int .i64 b.c2, .int .i64 b.c3, .int .i64 b.c4] 23)).alloc (.cells #[.int .i64 r, .int .i64 n] 35)).up hb1
    have kb := ((CkAt.new (w.alloc (.cells #[.int .i64 a.c0, .int .i64 a.c1, .int .i64 a.c2, .int .i64 a.c3, .int .i64 a.c4] 23)) b 23).alloc (.cells #[.int .i64 r, .int .i64 n] 35)).up hb1
    simp only [World.size_alloc] at kb
    have d0 : w1.cell? ⟨w.heap.size + 1 + 1, 0, none⟩ = some (.int .i64 r) := (hb1.cell (p := ⟨w.heap.size + 1 + 1, 0, none⟩) (by simp)).trans (by simp [go_sem])
    have d1 : w1.cell? ⟨w.heap.size + 1 + 1, 1, none⟩ = some (.int .i64 n) := (hb1.cell (p := ⟨w.heap.size + 1 + 1, 1, none⟩) (by simp)).trans (by simp [go_sem])
    have B1 := Lib.hid (((((Below.refl w.heap.size w).alloc (Nat.le_refl _) _).alloc (by simp) _).alloc (by simp; omega) _).trans (hb1.mono (by simp; omega)))
    have ⟨a0, a1, a2, a3, a4⟩ := ka.cells
    have KA := Lib.hid ka; have KB := Lib.hid kb
    have D0 := Lib.hid d0; have D1 := Lib.hid d1
    clear ka kb hb1
    go_wp2_with fail
    refine (HA.out _).mono ?_
    rintro e w2 ⟨rfl, hb2⟩
    clear a0 a1 a2 a3 a4 d0 d1
    have hz2 := hb2.size
    have KA2 := Lib.hid (KA.out.up hb2); have KB2 := Lib.hid (KB.out.up hb2)
    have d0 := (hb2.cell (p := ⟨w.heap.size + 1 + 1, 0, none⟩) (by simp; omega)).trans D0.out
    have d1 := (hb2.cell (p := ⟨w.heap.size + 1 + 1, 1, none⟩) (by simp; omega)).trans D1.out
    have D02 := Lib.hid d0; have D12 := Lib.hid d1
    have ⟨b0, b1, b2, b3, b4⟩ := KB2.out.cells
    have B2 := Lib.hid (B1.out.trans (hb2.mono (show w.heap.size ≤ _ by omega)))
    clear KA KB D0 D1 B1 hb2
    go_wp2_with fail
    refine (HB.out _).mono ?_
    rintro e w3 ⟨rfl, hb3⟩
    clear b0 b1 b2 b3 b4 d0 d1
    have hz3 := hb3.size
    have KA := Lib.hid (KA2.out.up hb3); have KB := Lib.hid (KB2.out.up hb3)
    have D0 := Lib.hid ((hb3.cell (p := ⟨w.heap.size + 1 + 1, 0, none⟩) (by simp; omega)).trans D02.out)
    have D1 := Lib.hid ((hb3.cell (p := ⟨w.heap.size + 1 + 1, 1, none⟩) (by simp; omega)).trans D12.out)
    have D2 : Hid (w.heap.size + 1 + 1 < w3.heap.size) := Lib.hid (by omega)
    have B3 := Lib.hid (B2.out.trans (hb3.mono (show w.heap.size ≤ _ by omega)))
    clear KA2 KB2 D02 D12 B2 hb3
    go_wp2
  · refine wp_named (fun W hW => ?_)
    have FA := Lib.hid (fun w' (h : Lex.Up W w') => ((by rw [hW]; exact KA.out : CkAt W w.heap.size a).up h).cells)
    have FB := Lib.hid (fun w' (h : Lex.Up W w') => ((by rw [hW]; exact KB.out : CkAt W (w.heap.size + 1) b).up h).cells)
    have d0 : W.cell? ⟨w.heap.size + 1 + 1, 0, none⟩ = some (.int .i64 r) := by rw [hW]; exact D0.out
    have d1 : W.cell? ⟨w.heap.size + 1 + 1, 1, none⟩ = some (.int .i64 n) := by rw [hW]; exact D1.out
    have d2 : w.heap.size + 1 + 1 < W.heap.size := by rw [hW]; exact D2.out
    have FX := Lib.hid (fun w' (h : Lex.Up W w') => And.intro ((h.cell (p := ⟨w.heap.size + 1 + 1, 0, none⟩) d2).trans d0) ((h.cell (p := ⟨w.heap.size + 1 + 1, 1, none⟩) d2).trans d1))
    have BW := Lib.hid (show Below w.heap.size w W by rw [hW]; exact B3.out)
    clear KA KB D0 D1 D2 B3 hW d0 d1 d2
    refine Lex.wp_region_lex (by kernel_rfl) (by kernel_rfl) (by rfl) ?_
    repeat (first | (refine Lex.lex_skip (by rfl) (by rfl) (by rfl) ?_; simp only [Act.put, List.setIfInBounds_toArray, List.set_cons_zero, List.set_cons_succ]) | (refine Lex.lex_pure (c := ?_) (by rfl) (by rfl) (fun w' hC => ?_) (by rfl) ?_; rotate_left 1; (have ⟨a0, a1, a2, a3, a4⟩ := FA.out w' hC; have ⟨b0, b1, b2, b3, b4⟩ := FB.out w' hC; go_simp; rfl); simp only [Act.put, List.setIfInBounds_toArray, List.set_cons_zero, List.set_cons_succ]))
    refine Lex.lex_callv (f := 14) (args := #[.agg #[.int .i64 a.c0, .int .i64 a.c1, .int .i64 a.c2, .int .i64 a.c3, .int .i64 a.c4], .agg #[.int .i64 b.c0, .int .i64 b.c1, .int .i64 b.c2, .int .i64 b.c3, .int .i64 b.c4]]) (.agg #[.int .i64 j.c0, .int .i64 j.c1, .int .i64 j.c2, .int .i64 j.c3, .int .i64 j.c4]) (by rfl) (by rfl) (fun w' => by go_simp) (fun w' hC => CJ.out w') (by rfl) ?_
    simp only [Act.put, List.setIfInBounds_toArray, List.set_cons_zero, List.set_cons_succ]
    repeat (first | (refine Lex.lex_skip (by rfl) (by rfl) (by rfl) ?_; simp only [Act.put, List.setIfInBounds_toArray, List.set_cons_zero, List.set_cons_succ]) | (refine Lex.lex_pure (c := ?_) (by rfl) (by rfl) (fun w' hC => ?_) (by rfl) ?_; rotate_left 1; (have ⟨d0, d1⟩ := FX.out w' hC; go_simp; rfl); simp only [Act.put, List.setIfInBounds_toArray, List.set_cons_zero, List.set_cons_succ]))
    refine Lex.lex_callv (f := 12) (args := #[.agg #[.int .i64 j.c0, .int .i64 j.c1, .int .i64 j.c2, .int .i64 j.c3, .int .i64 j.c4], .int .i64 r, .int .i64 n]) (.bool _) (by rfl) (by rfl) (fun w' => by go_simp) (fun w' hC => HJ.out w') (by rfl) ?_
    simp only [Act.put, List.setIfInBounds_toArray, List.set_cons_zero, List.set_cons_succ]
    repeat (first | (refine Lex.lex_skip (by rfl) (by rfl) (by rfl) ?_; simp only [Act.put, List.setIfInBounds_toArray, List.set_cons_zero, List.set_cons_succ]) | (refine Lex.lex_pure (c := ?_) (by rfl) (by rfl) (fun w' hC => ?_) (by rfl) ?_; rotate_left 1; (have ⟨a0, a1, a2, a3, a4⟩ := FA.out w' hC; have ⟨b0, b1, b2, b3, b4⟩ := FB.out w' hC; go_simp; rfl); simp only [Act.put, List.setIfInBounds_toArray, List.set_cons_zero, List.set_cons_succ]))
    skip
    repeat (first | (refine Lex.lex_skip (by rfl) (by rfl) (by rfl) ?_; simp only [Act.put, List.setIfInBounds_toArray, List.set_cons_zero, List.set_cons_succ]) | (refine Lex.lex_pure (c := ?_) (by rfl) (by rfl) (fun w' hC => ?_) (by rfl) ?_; rotate_left 1; (have ⟨a0, a1, a2, a3, a4⟩ := FA.out w' hC; have ⟨d0, d1⟩ := FX.out w' hC; go_simp; rfl); simp only [Act.put, List.setIfInBounds_toArray, List.set_cons_zero, List.set_cons_succ]))
    refine Lex.lex_callv (f := 12) (args := #[.agg #[.int .i64 a.c0, .int .i64 a.c1, .int .i64 a.c2, .int .i64 a.c3, .int .i64 a.c4], .int .i64 r, .int .i64 0]) (.bool false) (by rfl) (by rfl) (fun w' => by go_simp) (fun w' hC => H0.out w') (by rfl) ?_
    simp only [Act.put, List.setIfInBounds_toArray, List.set_cons_zero, List.set_cons_succ]
    repeat (first | (refine Lex.lex_skip (by rfl) (by rfl) (by rfl) ?_; simp only [Act.put, List.setIfInBounds_toArray, List.set_cons_zero, List.set_cons_succ]) | (refine Lex.lex_pure (c := ?_) (by rfl) (by rfl) (fun w' hC => ?_) (by rfl) ?_; rotate_left 1; (have ⟨a0, a1, a2, a3, a4⟩ := FA.out w' hC; have ⟨d0, d1⟩ := FX.out w' hC; have hx1 := X1.out; have hx2 := X2.out; go_simp; rfl); simp only [Act.put, List.setIfInBounds_toArray, List.set_cons_zero, List.set_cons_succ]))
    refine Lex.lex_callv (f := 12) (args := #[.agg #[.int .i64 a.c0, .int .i64 a.c1, .int .i64 a.c2, .int .i64 a.c3, .int .i64 a.c4], .int .i64 (-1 - r % 1024), .int .i64 n]) (.bool false) (by rfl) (by rfl) (fun w' => by go_simp) (fun w' hC => HL.out w') (by rfl) ?_
    simp only [Act.put, List.setIfInBounds_toArray, List.set_cons_zero, List.set_cons_succ]
    repeat (first | (refine Lex.lex_skip (by rfl) (by rfl) (by rfl) ?_; simp only [Act.put, List.setIfInBounds_toArray, List.set_cons_zero, List.set_cons_succ]) | (refine Lex.lex_pure (c := ?_) (by rfl) (by rfl) (fun w' hC => ?_) (by rfl) ?_; rotate_left 1; (have ⟨a0, a1, a2, a3, a4⟩ := FA.out w' hC; have ⟨d0, d1⟩ := FX.out w' hC; have hx1 := X1.out; have hx2 := X2.out; go_simp; rfl); simp only [Act.put, List.setIfInBounds_toArray, List.set_cons_zero, List.set_cons_succ]))
    refine Lex.lex_callv (f := 12) (args := #[.agg #[.int .i64 a.c0, .int .i64 a.c1, .int .i64 a.c2, .int .i64 a.c3, .int .i64 a.c4], .int .i64 (5 + r % 1024), .int .i64 n]) (.bool false) (by rfl) (by rfl) (fun w' => by go_simp) (fun w' hC => HH.out w') (by rfl) ?_
    simp only [Act.put, List.setIfInBounds_toArray, List.set_cons_zero, List.set_cons_succ]
    repeat (first | (refine Lex.lex_skip (by rfl) (by rfl) (by rfl) ?_; simp only [Act.put, List.setIfInBounds_toArray, List.set_cons_zero, List.set_cons_succ]) | (refine Lex.lex_pure (c := ?_) (by rfl) (by rfl) (fun w' hC => ?_) (by rfl) ?_; rotate_left 1; (go_simp; rfl); simp only [Act.put, List.setIfInBounds_toArray, List.set_cons_zero, List.set_cons_succ]))
    refine Lex.lex_nil (fun w5 hC => ?_)
    simp only [Lex.fill]
    have hB := Lib.hid (BW.out.trans (hC.mono BW.out.size))
    clear hC
    go_wp2
    go_ret
    exact ⟨rfl, hB.out⟩
  · refine wp_named (fun W hW => ?_)
    have FA := Lib.hid (fun w' (h : Lex.Up W w') => ((by rw [hW]; exact KA.out : CkAt W w.heap.size a).up h).cells)
    have FB := Lib.hid (fun w' (h : Lex.Up W w') => ((by rw [hW]; exact KB.out : CkAt W (w.heap.size + 1) b).up h).cells)
    have d0 : W.cell? ⟨w.heap.size + 1 + 1, 0, none⟩ = some (.int .i64 r) := by rw [hW]; exact D0.out
    have d1 : W.cell? ⟨w.heap.size + 1 + 1, 1, none⟩ = some (.int .i64 n) := by rw [hW]; exact D1.out
    have d2 : w.heap.size + 1 + 1 < W.heap.size := by rw [hW]; exact D2.out
    have FX := Lib.hid (fun w' (h : Lex.Up W w') => And.intro ((h.cell (p := ⟨w.heap.size + 1 + 1, 0, none⟩) d2).trans d0) ((h.cell (p := ⟨w.heap.size + 1 + 1, 1, none⟩) d2).trans d1))
    have BW := Lib.hid (show Below w.heap.size w W by rw [hW]; exact B3.out)
    clear KA KB D0 D1 D2 B3 hW d0 d1 d2
    refine Lex.wp_region_lex (by kernel_rfl) (by kernel_rfl) (by rfl) ?_
    repeat (first | (refine Lex.lex_skip (by rfl) (by rfl) (by rfl) ?_; simp only [Act.put, List.setIfInBounds_toArray, List.set_cons_zero, List.set_cons_succ]) | (refine Lex.lex_pure (c := ?_) (by rfl) (by rfl) (fun w' hC => ?_) (by rfl) ?_; rotate_left 1; (have ⟨a0, a1, a2, a3, a4⟩ := FA.out w' hC; have ⟨b0, b1, b2, b3, b4⟩ := FB.out w' hC; go_simp; rfl); simp only [Act.put, List.setIfInBounds_toArray, List.set_cons_zero, List.set_cons_succ]))
    refine Lex.lex_callv (f := 14) (args := #[.agg #[.int .i64 a.c0, .int .i64 a.c1, .int .i64 a.c2, .int .i64 a.c3, .int .i64 a.c4], .agg #[.int .i64 b.c0, .int .i64 b.c1, .int .i64 b.c2, .int .i64 b.c3, .int .i64 b.c4]]) (.agg #[.int .i64 j.c0, .int .i64 j.c1, .int .i64 j.c2, .int .i64 j.c3, .int .i64 j.c4]) (by rfl) (by rfl) (fun w' => by go_simp) (fun w' hC => CJ.out w') (by rfl) ?_
    simp only [Act.put, List.setIfInBounds_toArray, List.set_cons_zero, List.set_cons_succ]
    repeat (first | (refine Lex.lex_skip (by rfl) (by rfl) (by rfl) ?_; simp only [Act.put, List.setIfInBounds_toArray, List.set_cons_zero, List.set_cons_succ]) | (refine Lex.lex_pure (c := ?_) (by rfl) (by rfl) (fun w' hC => ?_) (by rfl) ?_; rotate_left 1; (have ⟨d0, d1⟩ := FX.out w' hC; go_simp; rfl); simp only [Act.put, List.setIfInBounds_toArray, List.set_cons_zero, List.set_cons_succ]))
    refine Lex.lex_callv (f := 12) (args := #[.agg #[.int .i64 j.c0, .int .i64 j.c1, .int .i64 j.c2, .int .i64 j.c3, .int .i64 j.c4], .int .i64 r, .int .i64 n]) (.bool _) (by rfl) (by rfl) (fun w' => by go_simp) (fun w' hC => HJ.out w') (by rfl) ?_
    simp only [Act.put, List.setIfInBounds_toArray, List.set_cons_zero, List.set_cons_succ]
    repeat (first | (refine Lex.lex_skip (by rfl) (by rfl) (by rfl) ?_; simp only [Act.put, List.setIfInBounds_toArray, List.set_cons_zero, List.set_cons_succ]) | (refine Lex.lex_pure (c := ?_) (by rfl) (by rfl) (fun w' hC => ?_) (by rfl) ?_; rotate_left 1; (have ⟨a0, a1, a2, a3, a4⟩ := FA.out w' hC; have ⟨b0, b1, b2, b3, b4⟩ := FB.out w' hC; go_simp; rfl); simp only [Act.put, List.setIfInBounds_toArray, List.set_cons_zero, List.set_cons_succ]))
    skip
    repeat (first | (refine Lex.lex_skip (by rfl) (by rfl) (by rfl) ?_; simp only [Act.put, List.setIfInBounds_toArray, List.set_cons_zero, List.set_cons_succ]) | (refine Lex.lex_pure (c := ?_) (by rfl) (by rfl) (fun w' hC => ?_) (by rfl) ?_; rotate_left 1; (have ⟨a0, a1, a2, a3, a4⟩ := FA.out w' hC; have ⟨d0, d1⟩ := FX.out w' hC; go_simp; rfl); simp only [Act.put, List.setIfInBounds_toArray, List.set_cons_zero, List.set_cons_succ]))
    refine Lex.lex_callv (f := 12) (args := #[.agg #[.int .i64 a.c0, .int .i64 a.c1, .int .i64 a.c2, .int .i64 a.c3, .int .i64 a.c4], .int .i64 r, .int .i64 0]) (.bool false) (by rfl) (by rfl) (fun w' => by go_simp) (fun w' hC => H0.out w') (by rfl) ?_
    simp only [Act.put, List.setIfInBounds_toArray, List.set_cons_zero, List.set_cons_succ]
    repeat (first | (refine Lex.lex_skip (by rfl) (by rfl) (by rfl) ?_; simp only [Act.put, List.setIfInBounds_toArray, List.set_cons_zero, List.set_cons_succ]) | (refine Lex.lex_pure (c := ?_) (by rfl) (by rfl) (fun w' hC => ?_) (by rfl) ?_; rotate_left 1; (have ⟨a0, a1, a2, a3, a4⟩ := FA.out w' hC; have ⟨d0, d1⟩ := FX.out w' hC; have hx1 := X1.out; have hx2 := X2.out; go_simp; rfl); simp only [Act.put, List.setIfInBounds_toArray, List.set_cons_zero, List.set_cons_succ]))
    refine Lex.lex_callv (f := 12) (args := #[.agg #[.int .i64 a.c0, .int .i64 a.c1, .int .i64 a.c2, .int .i64 a.c3, .int .i64 a.c4], .int .i64 (-1 - r % 1024), .int .i64 n]) (.bool false) (by rfl) (by rfl) (fun w' => by go_simp) (fun w' hC => HL.out w') (by rfl) ?_
    simp only [Act.put, List.setIfInBounds_toArray, List.set_cons_zero, List.set_cons_succ]
    repeat (first | (refine Lex.lex_skip (by rfl) (by rfl) (by rfl) ?_; simp only [Act.put, List.setIfInBounds_toArray, List.set_cons_zero, List.set_cons_succ]) | (refine Lex.lex_pure (c := ?_) (by rfl) (by rfl) (fun w' hC => ?_) (by rfl) ?_; rotate_left 1; (have ⟨a0, a1, a2, a3, a4⟩ := FA.out w' hC; have ⟨d0, d1⟩ := FX.out w' hC; have hx1 := X1.out; have hx2 := X2.out; go_simp; rfl); simp only [Act.put, List.setIfInBounds_toArray, List.set_cons_zero, List.set_cons_succ]))
    refine Lex.lex_callv (f := 12) (args := #[.agg #[.int .i64 a.c0, .int .i64 a.c1, .int .i64 a.c2, .int .i64 a.c3, .int .i64 a.c4], .int .i64 (5 + r % 1024), .int .i64 n]) (.bool false) (by rfl) (by rfl) (fun w' => by go_simp) (fun w' hC => HH.out w') (by rfl) ?_
    simp only [Act.put, List.setIfInBounds_toArray, List.set_cons_zero, List.set_cons_succ]
    repeat (first | (refine Lex.lex_skip (by rfl) (by rfl) (by rfl) ?_; simp only [Act.put, List.setIfInBounds_toArray, List.set_cons_zero, List.set_cons_succ]) | (refine Lex.lex_pure (c := ?_) (by rfl) (by rfl) (fun w' hC => ?_) (by rfl) ?_; rotate_left 1; (go_simp; rfl); simp only [Act.put, List.setIfInBounds_toArray, List.set_cons_zero, List.set_cons_succ]))
    refine Lex.lex_nil (fun w5 hC => ?_)
    simp only [Lex.fill]
    have hB := Lib.hid (BW.out.trans (hC.mono BW.out.size))
    clear hC
    go_wp2
    go_ret
    exact ⟨rfl, hB.out⟩
  · refine wp_named (fun W hW => ?_)
    have FA := Lib.hid (fun w' (h : Lex.Up W w') => ((by rw [hW]; exact KA.out : CkAt W w.heap.size a).up h).cells)
    have FB := Lib.hid (fun w' (h : Lex.Up W w') => ((by rw [hW]; exact KB.out : CkAt W (w.heap.size + 1) b).up h).cells)
    have d0 : W.cell? ⟨w.heap.size + 1 + 1, 0, none⟩ = some (.int .i64 r) := by rw [hW]; exact D0.out
    have d1 : W.cell? ⟨w.heap.size + 1 + 1, 1, none⟩ = some (.int .i64 n) := by rw [hW]; exact D1.out
    have d2 : w.heap.size + 1 + 1 < W.heap.size := by rw [hW]; exact D2.out
    have FX := Lib.hid (fun w' (h : Lex.Up W w') => And.intro ((h.cell (p := ⟨w.heap.size + 1 + 1, 0, none⟩) d2).trans d0) ((h.cell (p := ⟨w.heap.size + 1 + 1, 1, none⟩) d2).trans d1))
    have BW := Lib.hid (show Below w.heap.size w W by rw [hW]; exact B3.out)
    clear KA KB D0 D1 D2 B3 hW d0 d1 d2
    refine Lex.wp_region_lex (by kernel_rfl) (by kernel_rfl) (by rfl) ?_
    repeat (first | (refine Lex.lex_skip (by rfl) (by rfl) (by rfl) ?_; simp only [Act.put, List.setIfInBounds_toArray, List.set_cons_zero, List.set_cons_succ]) | (refine Lex.lex_pure (c := ?_) (by rfl) (by rfl) (fun w' hC => ?_) (by rfl) ?_; rotate_left 1; (have ⟨a0, a1, a2, a3, a4⟩ := FA.out w' hC; have ⟨b0, b1, b2, b3, b4⟩ := FB.out w' hC; go_simp; rfl); simp only [Act.put, List.setIfInBounds_toArray, List.set_cons_zero, List.set_cons_succ]))
    refine Lex.lex_callv (f := 14) (args := #[.agg #[.int .i64 a.c0, .int .i64 a.c1, .int .i64 a.c2, .int .i64 a.c3, .int .i64 a.c4], .agg #[.int .i64 b.c0, .int .i64 b.c1, .int .i64 b.c2, .int .i64 b.c3, .int .i64 b.c4]]) (.agg #[.int .i64 j.c0, .int .i64 j.c1, .int .i64 j.c2, .int .i64 j.c3, .int .i64 j.c4]) (by rfl) (by rfl) (fun w' => by go_simp) (fun w' hC => CJ.out w') (by rfl) ?_
    simp only [Act.put, List.setIfInBounds_toArray, List.set_cons_zero, List.set_cons_succ]
    repeat (first | (refine Lex.lex_skip (by rfl) (by rfl) (by rfl) ?_; simp only [Act.put, List.setIfInBounds_toArray, List.set_cons_zero, List.set_cons_succ]) | (refine Lex.lex_pure (c := ?_) (by rfl) (by rfl) (fun w' hC => ?_) (by rfl) ?_; rotate_left 1; (have ⟨d0, d1⟩ := FX.out w' hC; go_simp; rfl); simp only [Act.put, List.setIfInBounds_toArray, List.set_cons_zero, List.set_cons_succ]))
    refine Lex.lex_callv (f := 12) (args := #[.agg #[.int .i64 j.c0, .int .i64 j.c1, .int .i64 j.c2, .int .i64 j.c3, .int .i64 j.c4], .int .i64 r, .int .i64 n]) (.bool _) (by rfl) (by rfl) (fun w' => by go_simp) (fun w' hC => HJ.out w') (by rfl) ?_
    simp only [Act.put, List.setIfInBounds_toArray, List.set_cons_zero, List.set_cons_succ]
    repeat (first | (refine Lex.lex_skip (by rfl) (by rfl) (by rfl) ?_; simp only [Act.put, List.setIfInBounds_toArray, List.set_cons_zero, List.set_cons_succ]) | (refine Lex.lex_pure (c := ?_) (by rfl) (by rfl) (fun w' hC => ?_) (by rfl) ?_; rotate_left 1; (have ⟨a0, a1, a2, a3, a4⟩ := FA.out w' hC; have ⟨b0, b1, b2, b3, b4⟩ := FB.out w' hC; go_simp; rfl); simp only [Act.put, List.setIfInBounds_toArray, List.set_cons_zero, List.set_cons_succ]))
    refine Lex.lex_callv (f := 16) (args := #[.agg #[.int .i64 a.c0, .int .i64 a.c1, .int .i64 a.c2, .int .i64 a.c3, .int .i64 a.c4], .agg #[.int .i64 b.c0, .int .i64 b.c1, .int .i64 b.c2, .int .i64 b.c3, .int .i64 b.c4]]) (.bool false) (by rfl) (by rfl) (fun w' => by go_simp) (fun w' hC => LE.out w') (by rfl) ?_
    simp only [Act.put, List.setIfInBounds_toArray, List.set_cons_zero, List.set_cons_succ]
    repeat (first | (refine Lex.lex_skip (by rfl) (by rfl) (by rfl) ?_; simp only [Act.put, List.setIfInBounds_toArray, List.set_cons_zero, List.set_cons_succ]) | (refine Lex.lex_pure (c := ?_) (by rfl) (by rfl) (fun w' hC => ?_) (by rfl) ?_; rotate_left 1; (have ⟨a0, a1, a2, a3, a4⟩ := FA.out w' hC; have ⟨d0, d1⟩ := FX.out w' hC; go_simp; rfl); simp only [Act.put, List.setIfInBounds_toArray, List.set_cons_zero, List.set_cons_succ]))
    refine Lex.lex_callv (f := 12) (args := #[.agg #[.int .i64 a.c0, .int .i64 a.c1, .int .i64 a.c2, .int .i64 a.c3, .int .i64 a.c4], .int .i64 r, .int .i64 0]) (.bool false) (by rfl) (by rfl) (fun w' => by go_simp) (fun w' hC => H0.out w') (by rfl) ?_
    simp only [Act.put, List.setIfInBounds_toArray, List.set_cons_zero, List.set_cons_succ]
    repeat (first | (refine Lex.lex_skip (by rfl) (by rfl) (by rfl) ?_; simp only [Act.put, List.setIfInBounds_toArray, List.set_cons_zero, List.set_cons_succ]) | (refine Lex.lex_pure (c := ?_) (by rfl) (by rfl) (fun w' hC => ?_) (by rfl) ?_; rotate_left 1; (have ⟨a0, a1, a2, a3, a4⟩ := FA.out w' hC; have ⟨d0, d1⟩ := FX.out w' hC; have hx1 := X1.out; have hx2 := X2.out; go_simp; rfl); simp only [Act.put, List.setIfInBounds_toArray, List.set_cons_zero, List.set_cons_succ]))
    refine Lex.lex_callv (f := 12) (args := #[.agg #[.int .i64 a.c0, .int .i64 a.c1, .int .i64 a.c2, .int .i64 a.c3, .int .i64 a.c4], .int .i64 (-1 - r % 1024), .int .i64 n]) (.bool false) (by rfl) (by rfl) (fun w' => by go_simp) (fun w' hC => HL.out w') (by rfl) ?_
    simp only [Act.put, List.setIfInBounds_toArray, List.set_cons_zero, List.set_cons_succ]
    repeat (first | (refine Lex.lex_skip (by rfl) (by rfl) (by rfl) ?_; simp only [Act.put, List.setIfInBounds_toArray, List.set_cons_zero, List.set_cons_succ]) | (refine Lex.lex_pure (c := ?_) (by rfl) (by rfl) (fun w' hC => ?_) (by rfl) ?_; rotate_left 1; (have ⟨a0, a1, a2, a3, a4⟩ := FA.out w' hC; have ⟨d0, d1⟩ := FX.out w' hC; have hx1 := X1.out; have hx2 := X2.out; go_simp; rfl); simp only [Act.put, List.setIfInBounds_toArray, List.set_cons_zero, List.set_cons_succ]))
    refine Lex.lex_callv (f := 12) (args := #[.agg #[.int .i64 a.c0, .int .i64 a.c1, .int .i64 a.c2, .int .i64 a.c3, .int .i64 a.c4], .int .i64 (5 + r % 1024), .int .i64 n]) (.bool false) (by rfl) (by rfl) (fun w' => by go_simp) (fun w' hC => HH.out w') (by rfl) ?_
    simp only [Act.put, List.setIfInBounds_toArray, List.set_cons_zero, List.set_cons_succ]
    repeat (first | (refine Lex.lex_skip (by rfl) (by rfl) (by rfl) ?_; simp only [Act.put, List.setIfInBounds_toArray, List.set_cons_zero, List.set_cons_succ]) | (refine Lex.lex_pure (c := ?_) (by rfl) (by rfl) (fun w' hC => ?_) (by rfl) ?_; rotate_left 1; (go_simp; rfl); simp only [Act.put, List.setIfInBounds_toArray, List.set_cons_zero, List.set_cons_succ]))
    refine Lex.lex_nil (fun w5 hC => ?_)
    simp only [Lex.fill]
    have hB := Lib.hid (BW.out.trans (hC.mono BW.out.size))
    clear hC
    go_wp2
    go_ret
    exact ⟨rfl, hB.out⟩
  · refine wp_named (fun W hW => ?_)
    have FA := Lib.hid (fun w' (h : Lex.Up W w') => ((by rw [hW]; exact KA.out : CkAt W w.heap.size a).up h).cells)
    have FB := Lib.hid (fun w' (h : Lex.Up W w') => ((by rw [hW]; exact KB.out : CkAt W (w.heap.size + 1) b).up h).cells)
    have d0 : W.cell? ⟨w.heap.size + 1 + 1, 0, none⟩ = some (.int .i64 r) := by rw [hW]; exact D0.out
    have d1 : W.cell? ⟨w.heap.size + 1 + 1, 1, none⟩ = some (.int .i64 n) := by rw [hW]; exact D1.out
    have d2 : w.heap.size + 1 + 1 < W.heap.size := by rw [hW]; exact D2.out
    have FX := Lib.hid (fun w' (h : Lex.Up W w') => And.intro ((h.cell (p := ⟨w.heap.size + 1 + 1, 0, none⟩) d2).trans d0) ((h.cell (p := ⟨w.heap.size + 1 + 1, 1, none⟩) d2).trans d1))
    have BW := Lib.hid (show Below w.heap.size w W by rw [hW]; exact B3.out)
    clear KA KB D0 D1 D2 B3 hW d0 d1 d2
    refine Lex.wp_region_lex (by kernel_rfl) (by kernel_rfl) (by rfl) ?_
    repeat (first | (refine Lex.lex_skip (by rfl) (by rfl) (by rfl) ?_; simp only [Act.put, List.setIfInBounds_toArray, List.set_cons_zero, List.set_cons_succ]) | (refine Lex.lex_pure (c := ?_) (by rfl) (by rfl) (fun w' hC => ?_) (by rfl) ?_; rotate_left 1; (have ⟨a0, a1, a2, a3, a4⟩ := FA.out w' hC; have ⟨b0, b1, b2, b3, b4⟩ := FB.out w' hC; go_simp; rfl); simp only [Act.put, List.setIfInBounds_toArray, List.set_cons_zero, List.set_cons_succ]))
    refine Lex.lex_callv (f := 14) (args := #[.agg #[.int .i64 a.c0, .int .i64 a.c1, .int .i64 a.c2, .int .i64 a.c3, .int .i64 a.c4], .agg #[.int .i64 b.c0, .int .i64 b.c1, .int .i64 b.c2, .int .i64 b.c3, .int .i64 b.c4]]) (.agg #[.int .i64 j.c0, .int .i64 j.c1, .int .i64 j.c2, .int .i64 j.c3, .int .i64 j.c4]) (by rfl) (by rfl) (fun w' => by go_simp) (fun w' hC => CJ.out w') (by rfl) ?_
    simp only [Act.put, List.setIfInBounds_toArray, List.set_cons_zero, List.set_cons_succ]
    repeat (first | (refine Lex.lex_skip (by rfl) (by rfl) (by rfl) ?_; simp only [Act.put, List.setIfInBounds_toArray, List.set_cons_zero, List.set_cons_succ]) | (refine Lex.lex_pure (c := ?_) (by rfl) (by rfl) (fun w' hC => ?_) (by rfl) ?_; rotate_left 1; (have ⟨d0, d1⟩ := FX.out w' hC; go_simp; rfl); simp only [Act.put, List.setIfInBounds_toArray, List.set_cons_zero, List.set_cons_succ]))
    refine Lex.lex_callv (f := 12) (args := #[.agg #[.int .i64 j.c0, .int .i64 j.c1, .int .i64 j.c2, .int .i64 j.c3, .int .i64 j.c4], .int .i64 r, .int .i64 n]) (.bool _) (by rfl) (by rfl) (fun w' => by go_simp) (fun w' hC => HJ.out w') (by rfl) ?_
    simp only [Act.put, List.setIfInBounds_toArray, List.set_cons_zero, List.set_cons_succ]
    repeat (first | (refine Lex.lex_skip (by rfl) (by rfl) (by rfl) ?_; simp only [Act.put, List.setIfInBounds_toArray, List.set_cons_zero, List.set_cons_succ]) | (refine Lex.lex_pure (c := ?_) (by rfl) (by rfl) (fun w' hC => ?_) (by rfl) ?_; rotate_left 1; (have ⟨a0, a1, a2, a3, a4⟩ := FA.out w' hC; have ⟨b0, b1, b2, b3, b4⟩ := FB.out w' hC; go_simp; rfl); simp only [Act.put, List.setIfInBounds_toArray, List.set_cons_zero, List.set_cons_succ]))
    skip
    repeat (first | (refine Lex.lex_skip (by rfl) (by rfl) (by rfl) ?_; simp only [Act.put, List.setIfInBounds_toArray, List.set_cons_zero, List.set_cons_succ]) | (refine Lex.lex_pure (c := ?_) (by rfl) (by rfl) (fun w' hC => ?_) (by rfl) ?_; rotate_left 1; (have ⟨a0, a1, a2, a3, a4⟩ := FA.out w' hC; have ⟨d0, d1⟩ := FX.out w' hC; go_simp; rfl); simp only [Act.put, List.setIfInBounds_toArray, List.set_cons_zero, List.set_cons_succ]))
    refine Lex.lex_callv (f := 12) (args := #[.agg #[.int .i64 a.c0, .int .i64 a.c1, .int .i64 a.c2, .int .i64 a.c3, .int .i64 a.c4], .int .i64 r, .int .i64 0]) (.bool false) (by rfl) (by rfl) (fun w' => by go_simp) (fun w' hC => H0.out w') (by rfl) ?_
    simp only [Act.put, List.setIfInBounds_toArray, List.set_cons_zero, List.set_cons_succ]
    repeat (first | (refine Lex.lex_skip (by rfl) (by rfl) (by rfl) ?_; simp only [Act.put, List.setIfInBounds_toArray, List.set_cons_zero, List.set_cons_succ]) | (refine Lex.lex_pure (c := ?_) (by rfl) (by rfl) (fun w' hC => ?_) (by rfl) ?_; rotate_left 1; (have ⟨a0, a1, a2, a3, a4⟩ := FA.out w' hC; have ⟨d0, d1⟩ := FX.out w' hC; have hx1 := X1.out; have hx2 := X2.out; go_simp; rfl); simp only [Act.put, List.setIfInBounds_toArray, List.set_cons_zero, List.set_cons_succ]))
    refine Lex.lex_callv (f := 12) (args := #[.agg #[.int .i64 a.c0, .int .i64 a.c1, .int .i64 a.c2, .int .i64 a.c3, .int .i64 a.c4], .int .i64 (-1 - r % 1024), .int .i64 n]) (.bool false) (by rfl) (by rfl) (fun w' => by go_simp) (fun w' hC => HL.out w') (by rfl) ?_
    simp only [Act.put, List.setIfInBounds_toArray, List.set_cons_zero, List.set_cons_succ]
    repeat (first | (refine Lex.lex_skip (by rfl) (by rfl) (by rfl) ?_; simp only [Act.put, List.setIfInBounds_toArray, List.set_cons_zero, List.set_cons_succ]) | (refine Lex.lex_pure (c := ?_) (by rfl) (by rfl) (fun w' hC => ?_) (by rfl) ?_; rotate_left 1; (have ⟨a0, a1, a2, a3, a4⟩ := FA.out w' hC; have ⟨d0, d1⟩ := FX.out w' hC; have hx1 := X1.out; have hx2 := X2.out; go_simp; rfl); simp only [Act.put, List.setIfInBounds_toArray, List.set_cons_zero, List.set_cons_succ]))
    refine Lex.lex_callv (f := 12) (args := #[.agg #[.int .i64 a.c0, .int .i64 a.c1, .int .i64 a.c2, .int .i64 a.c3, .int .i64 a.c4], .int .i64 (5 + r % 1024), .int .i64 n]) (.bool false) (by rfl) (by rfl) (fun w' => by go_simp) (fun w' hC => HH.out w') (by rfl) ?_
    simp only [Act.put, List.setIfInBounds_toArray, List.set_cons_zero, List.set_cons_succ]
    repeat (first | (refine Lex.lex_skip (by rfl) (by rfl) (by rfl) ?_; simp only [Act.put, List.setIfInBounds_toArray, List.set_cons_zero, List.set_cons_succ]) | (refine Lex.lex_pure (c := ?_) (by rfl) (by rfl) (fun w' hC => ?_) (by rfl) ?_; rotate_left 1; (go_simp; rfl); simp only [Act.put, List.setIfInBounds_toArray, List.set_cons_zero, List.set_cons_succ]))
    refine Lex.lex_nil (fun w5 hC => ?_)
    simp only [Lex.fill]
    have hB := Lib.hid (BW.out.trans (hC.mono BW.out.size))
    clear hC
    go_wp2
    go_ret
    exact ⟨rfl, hB.out⟩

set_option maxRecDepth 100000 in
set_option maxHeartbeats 2000000 in
theorem law_none_pos (a : Ck) (n r : Int) (w : World) (ha : a.Wf) (hr : 0 ≤ r) :
    Calls Try.prog 8 #[a.val, .int .i64 n, .int .i64 r] w fun e w' => e = .returned (.bool true) ∧ Below w.heap.size w w' := by
  have hx : decide (r < 0) = false := by simp; omega
  have C0 := Lib.hid (fun w => shown_any w)
  have HA := Lib.hid (fun w => by have := has_any a (5 + r % 1024) n w; rwa [Ck.has_none a _ n (by omega)] at this)
  have HB := Lib.hid (fun w => by have := has_any a (n % 4) (-n % 1024 - 1023) w; rwa [Ck.has_none a _ _ (by omega)] at this)
  have CN := Lib.hid (fun w => by have := next_any a (5 + r % 1024) w ha; unfold NextVal at this; rwa [(next_no (a := a) (r := 5 + r % 1024) (by omega)).1, (next_no (a := a) (r := 5 + r % 1024) (by omega)).2] at this)
  have hm := i64_and1023 r
  have hm3 := i64_and3 n
  have X3 : Hid (wrap64 (bits .and .i64 (wrap64 (-n)) 1023 - 1023) = -n % 1024 - 1023) := Lib.hid (by rw [i64_and1023]; unfold wrap64; omega)
  have qz : ∀ w, _ := fun w => eq_same Ck.zero w
  unfold Ck.zero at qz
  clear ha
  unfold Ck.val Ck.zero at *
  go_enter Try.func8, Try.ntmps8
  go_wp2_with fail
  refine (C0.out _).mono ?_
  rintro e w1 ⟨rfl, hb1⟩
  have KA := Lib.hid ((CkAt.new w a 23).up hb1)
  have B1 := Lib.hid (((Below.refl w.heap.size w).alloc (Nat.le_refl _) _).trans (hb1.mono (by simp)))
  clear hb1
  have ⟨a0, a1, a2, a3, a4⟩ := KA.out.cells
  go_wp2_with fail
  refine (CN.out _).mono ?_
  rintro e w2 ⟨rfl, hb2⟩
  clear a0 a1 a2 a3 a4
  have u2 : Lex.Up w1 (w2.alloc (.cells #[.int .i64 0, .int .i64 0, .int .i64 0, .int .i64 0, .int .i64 0] 23)) := hb2.trans ((Below.refl _ _).alloc hb2.size _)
  have KA2 := Lib.hid (KA.out.up u2)
  have KZ := Lib.hid (CkAt.new w2 ⟨0, 0, 0, 0, 0⟩ 23)
  have B2 := Lib.hid (B1.out.trans (u2.mono (show w.heap.size ≤ _ from B1.out.size)))
  clear KA B1 hb2 u2
  have ⟨a0, a1, a2, a3, a4⟩ := KA2.out.cells
  go_wp2_with fail
  refine (HA.out _).mono ?_
  rintro e w3 ⟨rfl, hb3⟩
  clear a0 a1 a2 a3 a4
  have ⟨a0, a1, a2, a3, a4⟩ := (KA2.out.up hb3).cells
  have ⟨z0, z1, z2, z3, z4⟩ := (KZ.out.up hb3).cells
  have B3 := Lib.hid (B2.out.trans (hb3.mono B2.out.size))
  clear KA2 KZ B2 hb3
  go_wp2_with fail
  rw [X3.out]
  with_reducible refine (HB.out _).mono ?_
  rintro e w4 ⟨rfl, hb4⟩
  have B4 := Lib.hid (B3.out.trans (hb4.mono B3.out.size))
  clear a0 a1 a2 a3 a4 z0 z1 z2 z3 z4 hb4
  go_wp2
  go_ret
  exact ⟨rfl, B4.out⟩

set_option maxRecDepth 100000 in
set_option maxHeartbeats 2000000 in
theorem law_none_neg (a : Ck) (n r : Int) (w : World) (ha : a.Wf) (hr : r < 0) :
    Calls Try.prog 8 #[a.val, .int .i64 n, .int .i64 r] w fun e w' => e = .returned (.bool true) ∧ Below w.heap.size w w' := by
  have hx : decide (r < 0) = true := by simpa using hr
  have C0 := Lib.hid (fun w => shown_any w)
  have HA := Lib.hid (fun w => by have := has_any a (-1 - r % 1024) n w; rwa [Ck.has_none a _ n (by omega)] at this)
  have HB := Lib.hid (fun w => by have := has_any a (n % 4) (-n % 1024 - 1023) w; rwa [Ck.has_none a _ _ (by omega)] at this)
  have CN := Lib.hid (fun w => by have := next_any a (-1 - r % 1024) w ha; unfold NextVal at this; rwa [(next_no (a := a) (r := -1 - r % 1024) (by omega)).1, (next_no (a := a) (r := -1 - r % 1024) (by omega)).2] at this)
  have hm := i64_and1023 r
  have hm3 := i64_and3 n
  have X3 : Hid (wrap64 (bits .and .i64 (wrap64 (-n)) 1023 - 1023) = -n % 1024 - 1023) := Lib.hid (by rw [i64_and1023]; unfold wrap64; omega)
  have qz : ∀ w, _ := fun w => eq_same Ck.zero w
  unfold Ck.zero at qz
  clear ha
  unfold Ck.val Ck.zero at *
  go_enter Try.func8, Try.ntmps8
  go_wp2_with fail
  refine (C0.out _).mono ?_
  rintro e w1 ⟨rfl, hb1⟩
  have KA := Lib.hid ((CkAt.new w a 23).up hb1)
  have B1 := Lib.hid (((Below.refl w.heap.size w).alloc (Nat.le_refl _) _).trans (hb1.mono (by simp)))
  clear hb1
  have ⟨a0, a1, a2, a3, a4⟩ := KA.out.cells
  go_wp2_with fail
  refine (CN.out _).mono ?_
  rintro e w2 ⟨rfl, hb2⟩
  clear a0 a1 a2 a3 a4
  have u2 : Lex.Up w1 (w2.alloc (.cells #[.int .i64 0, .int .i64 0, .int .i64 0, .int .i64 0, .int .i64 0] 23)) := hb2.trans ((Below.refl _ _).alloc hb2.size _)
  have KA2 := Lib.hid (KA.out.up u2)
  have KZ := Lib.hid (CkAt.new w2 ⟨0, 0, 0, 0, 0⟩ 23)
  have B2 := Lib.hid (B1.out.trans (u2.mono (show w.heap.size ≤ _ from B1.out.size)))
  clear KA B1 hb2 u2
  have ⟨a0, a1, a2, a3, a4⟩ := KA2.out.cells
  go_wp2_with fail
  refine (HA.out _).mono ?_
  rintro e w3 ⟨rfl, hb3⟩
  clear a0 a1 a2 a3 a4
  have ⟨a0, a1, a2, a3, a4⟩ := (KA2.out.up hb3).cells
  have ⟨z0, z1, z2, z3, z4⟩ := (KZ.out.up hb3).cells
  have B3 := Lib.hid (B2.out.trans (hb3.mono B2.out.size))
  clear KA2 KZ B2 hb3
  go_wp2_with fail
  rw [X3.out]
  with_reducible refine (HB.out _).mono ?_
  rintro e w4 ⟨rfl, hb4⟩
  have B4 := Lib.hid (B3.out.trans (hb4.mono B3.out.size))
  clear a0 a1 a2 a3 a4 z0 z1 z2 z3 z4 hb4
  go_wp2
  go_ret
  exact ⟨rfl, B4.out⟩
end Go.Proofs.Ytieldmgfhdhcdaa
