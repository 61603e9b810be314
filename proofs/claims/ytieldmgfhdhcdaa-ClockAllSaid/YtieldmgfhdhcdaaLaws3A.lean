/-
  The head of all statements of layer 3, and the walk of ClockAll.
-/
import Derived.Test.YtieldmgfhdhcdaaClkR
namespace Go.Proofs.Ytieldmgfhdhcdaa
open Go.RowKit
attribute [local go_sem ↓] Go.wp_at_zero Go.wp_at_succ

/-- Block b holds this clock. -/
def CkAt (w : World) (b : Nat) (c : Ck) : Prop := b < w.heap.size ∧ ∀ j, j < 5 → w.cell? ⟨b, j, none⟩ = some (.int .i64 (c.get j))
theorem CkAt.up {w w' : World} {b : Nat} {c : Ck} (h : CkAt w b c) (hu : Lex.Up w w') : CkAt w' b c :=
  ⟨Nat.lt_of_lt_of_le h.1 hu.size, fun j hj => (Below.cell hu (p := ⟨b, j, none⟩) h.1).trans (h.2 j hj)⟩
theorem CkAt.cells {w : World} {b : Nat} {c : Ck} (h : CkAt w b c) : w.cell? ⟨b, 0, none⟩ = some (.int .i64 c.c0) ∧ w.cell? ⟨b, 1, none⟩ = some (.int .i64 c.c1) ∧ w.cell? ⟨b, 2, none⟩ = some (.int .i64 c.c2) ∧ w.cell? ⟨b, 3, none⟩ = some (.int .i64 c.c3) ∧ w.cell? ⟨b, 4, none⟩ = some (.int .i64 c.c4) :=
  ⟨h.2 0 (by omega), h.2 1 (by omega), h.2 2 (by omega), h.2 3 (by omega), h.2 4 (by omega)⟩
theorem CkAt.new (w : World) (c : Ck) (t : TypeId) : CkAt (w.alloc (.cells #[.int .i64 c.c0, .int .i64 c.c1, .int .i64 c.c2, .int .i64 c.c3, .int .i64 c.c4] t)) w.heap.size c := ⟨by simp, fun j hj => Ck.cell_alloc w c t j hj⟩
theorem CkAt.alloc {w : World} {b : Nat} {c : Ck} (h : CkAt w b c) (o : Obj) : CkAt (w.alloc o) b c := h.up ((Below.refl _ _).alloc (Nat.le_refl _) o)

/-- Two clocks compared. -/
theorem eq_ck (a0 a1 a2 a3 a4 b0 b1 b2 b3 b4 : Int) (w : World) : (Op.equalIn 10000 23 (.agg #[.int .i64 a0, .int .i64 a1, .int .i64 a2, .int .i64 a3, .int .i64 a4]) (.agg #[.int .i64 b0, .int .i64 b1, .int .i64 b2, .int .i64 b3, .int .i64 b4])).run Try.prog w = .ok (decide (a0 = b0 ∧ a1 = b1 ∧ a2 = b2 ∧ a3 = b3 ∧ a4 = b4)) w := by
  have u5 := Try.underlying3
  have a5 := Try.isAgg3
  have z5 := Try.sizeOf3
  rw [show (10000 : Nat) = 9999 + 1 from rfl, Op.equalIn]
  simp only [Sem.run_bind, run_underlying Try.underlying23, Result.andThen_ok]
  simp only [Std.Legacy.Range.forIn_eq_forIn_range', Std.Legacy.Range.size, Nat.sub_zero, Nat.add_sub_cancel, Nat.div_one, List.range'_succ, List.range'_zero, List.forIn_cons, List.forIn_nil]
  go_simp
  by_cases h0 : a0 = b0 <;> by_cases h1 : a1 = b1 <;> by_cases h2 : a2 = b2 <;> by_cases h3 : a3 = b3 <;> by_cases h4 : a4 = b4 <;> simp [h0, h1, h2, h3, h4]
theorem eq_same (c : Ck) (w : World) : (Op.equalIn 10000 23 (.agg #[.int .i64 c.c0, .int .i64 c.c1, .int .i64 c.c2, .int .i64 c.c3, .int .i64 c.c4]) (.agg #[.int .i64 c.c0, .int .i64 c.c1, .int .i64 c.c2, .int .i64 c.c3, .int .i64 c.c4])).run Try.prog w = .ok true w := by
  rw [eq_ck]; simp
theorem eq_two (a b : Ck) (w : World) : (Op.equalIn 10000 23 (.agg #[.int .i64 a.c0, .int .i64 a.c1, .int .i64 a.c2, .int .i64 a.c3, .int .i64 a.c4]) (.agg #[.int .i64 b.c0, .int .i64 b.c1, .int .i64 b.c2, .int .i64 b.c3, .int .i64 b.c4])).run Try.prog w = .ok (Ck.eqB a b) w := by
  rw [eq_ck]
  unfold Ck.eqB
  simp only [Ck.ext_iff']

set_option maxHeartbeats 400000 in
theorem shown_any (w : World) : Calls Try.prog 9 #[] w fun e w' => e = .returned (.bool true) ∧ Below w.heap.size w w' := by
  have CJ := Lib.hid (fun w => join_any ⟨1, 0, 2, 0, 0⟩ ⟨0, 3, 1, 0, 0⟩ w)
  have CH := Lib.hid (fun r n w => has_any ⟨1, 0, 2, 0, 0⟩ r n w)
  have q : ∀ w : World, (Op.equalIn 10000 23 (.agg #[.int .i64 1, .int .i64 3, .int .i64 2, .int .i64 0, .int .i64 0]) (.agg #[.int .i64 1, .int .i64 3, .int .i64 2, .int .i64 0, .int .i64 0])).run Try.prog w = .ok true w := fun w => eq_same ⟨1, 3, 2, 0, 0⟩ w
  go_enter Try.func9, Try.ntmps9
  go_wp2_with fail
  refine (CJ.out _).mono ?_
  rintro e w1 ⟨rfl, hb1⟩
  rw [show (Ck.join ⟨1, 0, 2, 0, 0⟩ ⟨0, 3, 1, 0, 0⟩).val = .agg #[.int .i64 1, .int .i64 3, .int .i64 2, .int .i64 0, .int .i64 0] from rfl]
  have HB1 := Lib.hid hb1; clear hb1
  go_wp2_with fail
  refine (CH.out 2 2 _).mono ?_
  rintro e w2 ⟨rfl, hb2⟩
  rw [show Ck.has ⟨1, 0, 2, 0, 0⟩ 2 2 = true from by decide]
  have HB2 := Lib.hid (HB1.out.trans (hb2.mono HB1.out.size)); clear hb2
  go_wp2_with fail
  refine (CH.out 1 1 _).mono ?_
  rintro e w3 ⟨rfl, hb3⟩
  rw [show Ck.has ⟨1, 0, 2, 0, 0⟩ 1 1 = false from by decide]
  have HB3 := Lib.hid (HB2.out.trans (hb3.mono HB2.out.size)); clear hb3
  go_wp2
  go_ret
  exact ⟨rfl, HB3.out⟩

set_option maxRecDepth 100000 in
set_option maxHeartbeats 2000000 in
theorem law_all (a b : Ck) (x0 x1 : Int) (w : World) (ha : a.Wf) :
    Calls Try.prog 3 #[a.val, b.val, .agg #[.int .i64 x0, .int .i64 x1]] w fun e w' => e = .returned (.bool true) ∧ Below w.heap.size w w' := by
  have C0 := Lib.hid (fun w => shown_any w)
  have CN := Lib.hid (fun w => next_any a x0 w ha)
  have RN := Lib.hid (fun w => rnext_any a x0 w ha)
  have CH := Lib.hid (fun w => has_any a x0 x1 w)
  have RH := Lib.hid (fun w => rhas_any a x0 x1 w)
  have CJ := Lib.hid (fun w => join_any a b w)
  have RJ := Lib.hid (fun w => rjoin_any a b w)
  have CL := Lib.hid (fun w => le_any a b w)
  have RL := Lib.hid (fun w => rle_any a b w)
  unfold NextVal at CN RN
  generalize Ck.has a x0 x1 = h at *
  generalize Ck.le a b = l at *
  generalize Ck.join a b = j at *
  generalize Ck.next a x0 = n at *
  generalize Ck.nextErr a x0 = m at *
  have qj : ∀ w, _ := fun w => eq_same j w
  have qn : ∀ w, _ := fun w => eq_same n w
  clear ha
  unfold Ck.val at *
  go_enter Try.func3, Try.ntmps3
  go_wp2_with fail
  refine (C0.out _).mono ?_
  rintro e w1 ⟨rfl, hb1⟩
  have hz1 := hb1.size
  simp at hz1
  have ka := (((CkAt.new w a 23).alloc (.cells #[.int .i64 b.c0, .int .i64 b.c1, .int .i64 b.c2, .int .i64 b.c3, .int .i64 b.c4] 23)).alloc (.cells #[.int .i64 x0, .int .i64 x1] 24)).up hb1
  have kb := ((CkAt.new (w.alloc (.cells #[.int .i64 a.c0, .int .i64 a.c1, .int .i64 a.c2, .int .i64 a.c3, .int .i64 a.c4] 23)) b 23).alloc (.cells #[.int .i64 x0, .int .i64 x1] 24)).up hb1
  simp only [World.size_alloc] at kb
  have d0 : w1.cell? ⟨w.heap.size + 1 + 1, 0, none⟩ = some (.int .i64 x0) := (hb1.cell (p := ⟨w.heap.size + 1 + 1, 0, none⟩) (by simp)).trans (by simp [go_sem])
  have d1 : w1.cell? ⟨w.heap.size + 1 + 1, 1, none⟩ = some (.int .i64 x1) := (hb1.cell (p := ⟨w.heap.size + 1 + 1, 1, none⟩) (by simp)).trans (by simp [go_sem])
  have KA := Lib.hid ka; have KB := Lib.hid kb
  have D0 := Lib.hid d0; have D1 := Lib.hid d1
  have ⟨a0, a1, a2, a3, a4⟩ := ka.cells
  clear ka kb
  go_wp2_with fail
  refine (CN.out _).mono ?_
  rintro e w2 ⟨rfl, hb2⟩
  clear a0 a1 a2 a3 a4 d0 d1
  have hz2 := hb2.size
  have ⟨a0, a1, a2, a3, a4⟩ := (KA.out.up hb2).cells
  have d0 := (hb2.cell (p := ⟨w.heap.size + 1 + 1, 0, none⟩) (by simp; omega)).trans D0.out
  have s0 : w.heap.size < w2.heap.size := by omega
  have s1 : w.heap.size + 1 < w2.heap.size := by omega
  have s2 : w.heap.size + 1 + 1 < w2.heap.size := by omega
  have B2 := Lib.hid ((((((Below.refl w.heap.size w).alloc (Nat.le_refl _) _).alloc (by simp) _).alloc (by simp; omega) _).trans (hb1.mono (by simp; omega))).trans (hb2.mono (show w.heap.size ≤ w1.heap.size by omega)))
  have KA2 := Lib.hid (KA.out.up hb2); have KB2 := Lib.hid (KB.out.up hb2)
  have D02 := Lib.hid d0
  have D12 := Lib.hid ((hb2.cell (p := ⟨w.heap.size + 1 + 1, 1, none⟩) (by simp; omega)).trans D1.out)
  clear KA KB D0 D1
  go_wp2_with fail
  refine (RN.out _).mono ?_
  rintro e w3 ⟨rfl, hb3⟩
  have ub : Lex.Up w2 w3 := ((Below.refl _ _).alloc (Nat.le_refl _) _).trans (hb3.mono (by simp))
  have kn := (CkAt.new w2 n 23).up hb3
  have hz3 := hb3.size
  simp at hz3
  clear a0 a1 a2 a3 a4 d0 s0 s1 s2
  have KA := Lib.hid (KA2.out.up ub); have KB := Lib.hid (KB2.out.up ub)
  have D0 := Lib.hid ((ub.cell (p := ⟨w.heap.size + 1 + 1, 0, none⟩) (by simp; omega)).trans D02.out)
  have D1 := Lib.hid ((ub.cell (p := ⟨w.heap.size + 1 + 1, 1, none⟩) (by simp; omega)).trans D12.out)
  have B3 := Lib.hid (B2.out.trans (ub.mono (show w.heap.size ≤ w2.heap.size by omega)))
  have KN := Lib.hid kn
  clear KA2 KB2 D02 D12 kn ub hb3 hb2 hb1 B2
  go_wp2
  refine wp_named (fun W hW => ?_)
  have FA := Lib.hid (fun w' (h : Lex.Up W w') => ((by rw [hW]; exact KA.out.alloc _ : CkAt W w.heap.size a).up h).cells)
  have FB := Lib.hid (fun w' (h : Lex.Up W w') => ((by rw [hW]; exact KB.out.alloc _ : CkAt W (w.heap.size + 1) b).up h).cells)
  have FN := Lib.hid (fun w' (h : Lex.Up W w') => ((by rw [hW]; exact KN.out.alloc _ : CkAt W w2.heap.size n).up h).cells)
  have FM := Lib.hid (fun w' (h : Lex.Up W w') => ((by rw [hW]; exact CkAt.new w3 n _ : CkAt W w3.heap.size n).up h).cells)
  have u4 : Lex.Up w3 W := by rw [hW]; exact (Below.refl _ _).alloc (Nat.le_refl _) _
  have FX := Lib.hid (fun w' (h : Lex.Up W w') => And.intro (((u4.trans h).cell (p := ⟨w.heap.size + 1 + 1, 0, none⟩) (by simp; omega)).trans D0.out) (((u4.trans h).cell (p := ⟨w.heap.size + 1 + 1, 1, none⟩) (by simp; omega)).trans D1.out))
  have BW := Lib.hid (B3.out.trans (u4.mono B3.out.size))
  clear KA KB KN D0 D1 u4 B3 hW
  refine Lex.wp_region_lex (by kernel_rfl) (by kernel_rfl) (by rfl) ?_
  repeat (first | (refine Lex.lex_skip (by rfl) (by rfl) (by rfl) ?_; simp only [Act.put, List.setIfInBounds_toArray, List.set_cons_zero, List.set_cons_succ]) | (refine Lex.lex_pure (c := ?_) (by rfl) (by rfl) (fun w' hC => ?_) (by rfl) ?_; rotate_left 1; (have ⟨a0, a1, a2, a3, a4⟩ := FA.out w' hC; have ⟨b0, b1, b2, b3, b4⟩ := FB.out w' hC; have ⟨d0, d1⟩ := FX.out w' hC; go_simp; rfl); simp only [Act.put, List.setIfInBounds_toArray, List.set_cons_zero, List.set_cons_succ]))
  refine Lex.lex_callv (f := 12) (args := #[.agg #[.int .i64 a.c0, .int .i64 a.c1, .int .i64 a.c2, .int .i64 a.c3, .int .i64 a.c4], .int .i64 x0, .int .i64 x1]) (.bool h) (by rfl) (by rfl) (fun w' => by go_simp) (fun w' hC => CH.out w') (by rfl) ?_
  simp only [Act.put, List.setIfInBounds_toArray, List.set_cons_zero, List.set_cons_succ]
  repeat (first | (refine Lex.lex_skip (by rfl) (by rfl) (by rfl) ?_; simp only [Act.put, List.setIfInBounds_toArray, List.set_cons_zero, List.set_cons_succ]) | (refine Lex.lex_pure (c := ?_) (by rfl) (by rfl) (fun w' hC => ?_) (by rfl) ?_; rotate_left 1; (have ⟨a0, a1, a2, a3, a4⟩ := FA.out w' hC; have ⟨b0, b1, b2, b3, b4⟩ := FB.out w' hC; have ⟨d0, d1⟩ := FX.out w' hC; go_simp; rfl); simp only [Act.put, List.setIfInBounds_toArray, List.set_cons_zero, List.set_cons_succ]))
  refine Lex.lex_callv (f := 13) (args := #[.agg #[.int .i64 a.c0, .int .i64 a.c1, .int .i64 a.c2, .int .i64 a.c3, .int .i64 a.c4], .int .i64 x0, .int .i64 x1]) (.bool h) (by rfl) (by rfl) (fun w' => by go_simp) (fun w' hC => RH.out w') (by rfl) ?_
  simp only [Act.put, List.setIfInBounds_toArray, List.set_cons_zero, List.set_cons_succ]
  repeat (first | (refine Lex.lex_skip (by rfl) (by rfl) (by rfl) ?_; simp only [Act.put, List.setIfInBounds_toArray, List.set_cons_zero, List.set_cons_succ]) | (refine Lex.lex_pure (c := ?_) (by rfl) (by rfl) (fun w' hC => ?_) (by rfl) ?_; rotate_left 1; (have ⟨a0, a1, a2, a3, a4⟩ := FA.out w' hC; have ⟨b0, b1, b2, b3, b4⟩ := FB.out w' hC; have ⟨d0, d1⟩ := FX.out w' hC; go_simp; rfl); simp only [Act.put, List.setIfInBounds_toArray, List.set_cons_zero, List.set_cons_succ]))
  refine Lex.lex_callv (f := 14) (args := #[.agg #[.int .i64 a.c0, .int .i64 a.c1, .int .i64 a.c2, .int .i64 a.c3, .int .i64 a.c4], .agg #[.int .i64 b.c0, .int .i64 b.c1, .int .i64 b.c2, .int .i64 b.c3, .int .i64 b.c4]]) (.agg #[.int .i64 j.c0, .int .i64 j.c1, .int .i64 j.c2, .int .i64 j.c3, .int .i64 j.c4]) (by rfl) (by rfl) (fun w' => by go_simp) (fun w' hC => CJ.out w') (by rfl) ?_
  simp only [Act.put, List.setIfInBounds_toArray, List.set_cons_zero, List.set_cons_succ]
  repeat (first | (refine Lex.lex_skip (by rfl) (by rfl) (by rfl) ?_; simp only [Act.put, List.setIfInBounds_toArray, List.set_cons_zero, List.set_cons_succ]) | (refine Lex.lex_pure (c := ?_) (by rfl) (by rfl) (fun w' hC => ?_) (by rfl) ?_; rotate_left 1; (have ⟨a0, a1, a2, a3, a4⟩ := FA.out w' hC; have ⟨b0, b1, b2, b3, b4⟩ := FB.out w' hC; have ⟨d0, d1⟩ := FX.out w' hC; go_simp; rfl); simp only [Act.put, List.setIfInBounds_toArray, List.set_cons_zero, List.set_cons_succ]))
  refine Lex.lex_callv (f := 15) (args := #[.agg #[.int .i64 a.c0, .int .i64 a.c1, .int .i64 a.c2, .int .i64 a.c3, .int .i64 a.c4], .agg #[.int .i64 b.c0, .int .i64 b.c1, .int .i64 b.c2, .int .i64 b.c3, .int .i64 b.c4]]) (.agg #[.int .i64 j.c0, .int .i64 j.c1, .int .i64 j.c2, .int .i64 j.c3, .int .i64 j.c4]) (by rfl) (by rfl) (fun w' => by go_simp) (fun w' hC => RJ.out w') (by rfl) ?_
  simp only [Act.put, List.setIfInBounds_toArray, List.set_cons_zero, List.set_cons_succ]
  repeat (first | (refine Lex.lex_skip (by rfl) (by rfl) (by rfl) ?_; simp only [Act.put, List.setIfInBounds_toArray, List.set_cons_zero, List.set_cons_succ]) | (refine Lex.lex_pure (c := ?_) (by rfl) (by rfl) (fun w' hC => ?_) (by rfl) ?_; rotate_left 1; (have ⟨a0, a1, a2, a3, a4⟩ := FA.out w' hC; have ⟨b0, b1, b2, b3, b4⟩ := FB.out w' hC; have ⟨d0, d1⟩ := FX.out w' hC; go_simp; rfl); simp only [Act.put, List.setIfInBounds_toArray, List.set_cons_zero, List.set_cons_succ]))
  refine Lex.lex_callv (f := 16) (args := #[.agg #[.int .i64 a.c0, .int .i64 a.c1, .int .i64 a.c2, .int .i64 a.c3, .int .i64 a.c4], .agg #[.int .i64 b.c0, .int .i64 b.c1, .int .i64 b.c2, .int .i64 b.c3, .int .i64 b.c4]]) (.bool l) (by rfl) (by rfl) (fun w' => by go_simp) (fun w' hC => CL.out w') (by rfl) ?_
  simp only [Act.put, List.setIfInBounds_toArray, List.set_cons_zero, List.set_cons_succ]
  repeat (first | (refine Lex.lex_skip (by rfl) (by rfl) (by rfl) ?_; simp only [Act.put, List.setIfInBounds_toArray, List.set_cons_zero, List.set_cons_succ]) | (refine Lex.lex_pure (c := ?_) (by rfl) (by rfl) (fun w' hC => ?_) (by rfl) ?_; rotate_left 1; (have ⟨a0, a1, a2, a3, a4⟩ := FA.out w' hC; have ⟨b0, b1, b2, b3, b4⟩ := FB.out w' hC; have ⟨d0, d1⟩ := FX.out w' hC; go_simp; rfl); simp only [Act.put, List.setIfInBounds_toArray, List.set_cons_zero, List.set_cons_succ]))
  refine Lex.lex_callv (f := 17) (args := #[.agg #[.int .i64 a.c0, .int .i64 a.c1, .int .i64 a.c2, .int .i64 a.c3, .int .i64 a.c4], .agg #[.int .i64 b.c0, .int .i64 b.c1, .int .i64 b.c2, .int .i64 b.c3, .int .i64 b.c4]]) (.bool l) (by rfl) (by rfl) (fun w' => by go_simp) (fun w' hC => RL.out w') (by rfl) ?_
  simp only [Act.put, List.setIfInBounds_toArray, List.set_cons_zero, List.set_cons_succ]
  repeat (first | (refine Lex.lex_skip (by rfl) (by rfl) (by rfl) ?_; simp only [Act.put, List.setIfInBounds_toArray, List.set_cons_zero, List.set_cons_succ]) | (refine Lex.lex_pure (c := ?_) (by rfl) (by rfl) (fun w' hC => ?_) (by rfl) ?_; rotate_left 1; (have ⟨a0, a1, a2, a3, a4⟩ := FN.out w' hC; have ⟨b0, b1, b2, b3, b4⟩ := FM.out w' hC; go_simp; rfl); simp only [Act.put, List.setIfInBounds_toArray, List.set_cons_zero, List.set_cons_succ]))
  refine Lex.lex_nil (fun w5 hC => ?_)
  simp only [Lex.fill]
  have hB := Lib.hid (BW.out.trans (hC.mono BW.out.size))
  clear hC
  go_wp2
  go_ret
  exact ⟨rfl, hB.out⟩
end Go.Proofs.Ytieldmgfhdhcdaa
