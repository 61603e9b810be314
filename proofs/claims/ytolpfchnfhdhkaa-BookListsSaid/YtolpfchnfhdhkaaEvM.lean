/-
  The walks of event.May and event.Below.
-/
import Derived.Test.YtolpfchnfhdhkaaEv
import Derived.Deep.DeepCutAuto
import Derived.Deep.RegionLaw
namespace Go.Proofs.Ytolpfchnfhdhkaa
open Go.RowKit
set_option maxRecDepth 100000

theorem up_same {P : Program} {f : FuncId} {args : Array Value} {w : World} {v : Value} (h : Calls P f args w fun e w' => e = .returned v ∧ w' = w) : Calls P f args w fun e w' => e = .returned v ∧ Lex.Up w w' :=
  h.mono fun e w' he => ⟨he.1, by rw [he.2]; exact Lex.Up.refl w⟩
theorem up_blk {w w' : World} {cs : Array Value} {t : TypeId} (h : Lex.Up w w') : Lex.Up w (w'.alloc (.cells cs t)) := Below.alloc h h.size _
namespace Blk
variable {w : World} {b : Nat} {e : Ev} {t : TypeId}
theorem ck {c : Ck} (h : Blk w b c.cells t) : w.cell? ⟨b, 0, none⟩ = some (.int .i64 c.c0) ∧ w.cell? ⟨b, 1, none⟩ = some (.int .i64 c.c1) ∧ w.cell? ⟨b, 2, none⟩ = some (.int .i64 c.c2) ∧ w.cell? ⟨b, 3, none⟩ = some (.int .i64 c.c3) ∧ w.cell? ⟨b, 4, none⟩ = some (.int .i64 c.c4) := ⟨h.cell rfl, h.cell rfl, h.cell rfl, h.cell rfl, h.cell rfl⟩
theorem rn (h : Blk w b e.cells t) : w.cell? ⟨b, 0, none⟩ = some (.int .i64 e.r) ∧ w.cell? ⟨b, 1, none⟩ = some (.int .i64 e.n) := ⟨h.cell rfl, h.cell rfl⟩
theorem ctx (h : Blk w b e.cells t) : w.cell? ⟨b, 2, none⟩ = some (.int .i64 e.c.c0) ∧ w.cell? ⟨b, 3, none⟩ = some (.int .i64 e.c.c1) ∧ w.cell? ⟨b, 4, none⟩ = some (.int .i64 e.c.c2) ∧ w.cell? ⟨b, 5, none⟩ = some (.int .i64 e.c.c3) ∧ w.cell? ⟨b, 6, none⟩ = some (.int .i64 e.c.c4) := ⟨h.cell rfl, h.cell rfl, h.cell rfl, h.cell rfl, h.cell rfl⟩
theorem at_ (h : Blk w b e.cells t) {j : Nat} (hj : j < 5) : w.cell? ⟨b, 2 + j, none⟩ = some (.int .i64 (e.c.get j)) := by
  match j, hj with
  | 0, _ | 1, _ | 2, _ | 3, _ | 4, _ => exact h.cell rfl
theorem hk (h : Blk w b e.cells t) : w.cell? ⟨b, 7, none⟩ = some (.int .i64 e.h) ∧ w.cell? ⟨b, 8, none⟩ = some (.int .i64 e.k) := ⟨h.cell rfl, h.cell rfl⟩
theorem kklv (h : Blk w b e.cells t) : w.cell? ⟨b, 8, none⟩ = some (.int .i64 e.k) ∧ w.cell? ⟨b, 9, none⟩ = some (.string e.key) ∧ w.cell? ⟨b, 10, none⟩ = some (.int .i64 e.l) ∧ w.cell? ⟨b, 11, none⟩ = some (.string e.v) := ⟨h.cell rfl, h.cell rfl, h.cell rfl, h.cell rfl⟩
end Blk
namespace Ev
def mayB (e : Ev) : Bool := mark e.r e.n && seen e.c && decide (e.c.get e.r.toNat = e.n - 1) && high e.h
theorem may_eq (e : Ev) : may e = if mayB e then Tx.edit e.ed else 1 := by
  unfold may mayB
  congr 1
  simp [and_assoc]
end Ev

set_option maxRecDepth 100000 in
set_option maxHeartbeats 1600000 in
theorem evmay_any (e : Ev) (w : World) : Calls Try.prog 47 #[e.val] w fun x w' => x = .returned (.int .i64 (Ev.may e)) ∧ Below w.heap.size w w' := by
  have V := Lib.hid (Ev.may_eq e)
  unfold Ev.mayB at V
  have C1 := Lib.hid (fun w => up_same (isMark_any e.r e.n w))
  have C2 := Lib.hid (fun w => isSeen_any e.c w)
  have C3 := Lib.hid (fun w => up_same (isHeight_any e.h w))
  have C4 := Lib.hid (fun w => edit_any e.ed w)
  have KA := Lib.hid (Blk.new w e.cells 39)
  have U0 := Lib.hid (show Lex.Up w (w.alloc (.cells e.cells 39)) from (Below.refl w.heap.size w).alloc (Nat.le_refl _) _)
  have HM := Lib.hid (show Ev.mark e.r e.n = true → (∃ j : Nat, e.r = j ∧ j < 5) ∧ 1 ≤ e.n ∧ e.n ≤ 1048576 from fun h => by
    simp only [Ev.mark, decide_eq_true_eq] at h
    exact ⟨⟨e.r.toNat, by omega, by omega⟩, by omega, by omega⟩)
  generalize Ev.mark e.r e.n = mk at *
  generalize Ev.seen e.c = sn at *
  generalize Ev.high e.h = hg at *
  unfold Ev.val
  unfold Ck.val at C2
  generalize Ev.may e = z at *
  go_enter Try.func47, Try.ntmps47
  go_wp2
  refine wp_named (fun W hW => ?_)
  change W = w.alloc (.cells e.cells 39) at hW
  rw [← hW] at KA U0
  clear hW
  have FA := Lib.hid (fun w' (h : Lex.Up W w') => (KA.out.up h).rn)
  have FC := Lib.hid (fun w' (h : Lex.Up W w') => (KA.out.up h).ctx)
  have FH := Lib.hid (fun w' (h : Lex.Up W w') => (KA.out.up h).hk.1)
  cases mk
  · have V1 : Hid (z = 1) := Lib.hid (by rw [V.out]; rfl)
    clear V
    refine Lex.wp_region_lex (by kernel_rfl) (by kernel_rfl) (by rfl) ?_
    repeat (first | (refine Lex.lex_skip (by rfl) (by rfl) (by rfl) ?_; simp only [Act.put, List.setIfInBounds_toArray, List.set_cons_zero, List.set_cons_succ]) | (refine Lex.lex_pure (c := ?_) (by rfl) (by rfl) (fun w' hC => ?_) (by rfl) ?_; rotate_left 1; (have ⟨a0, a1⟩ := FA.out w' hC; go_simp; rfl); simp only [Act.put, List.setIfInBounds_toArray, List.set_cons_zero, List.set_cons_succ]))
    refine Lex.lex_callv (f := 78) (args := #[.int .i64 e.r, .int .i64 e.n]) (.bool false) (by rfl) (by rfl) (fun w' => by go_simp) (fun w' hC => C1.out w') (by rfl) ?_
    simp only [Act.put, List.setIfInBounds_toArray, List.set_cons_zero, List.set_cons_succ]
    repeat (first | (refine Lex.lex_skip (by rfl) (by rfl) (by rfl) ?_; simp only [Act.put, List.setIfInBounds_toArray, List.set_cons_zero, List.set_cons_succ]) | (refine Lex.lex_pure (c := ?_) (by rfl) (by rfl) (fun w' hC => ?_) (by rfl) ?_; rotate_left 1; (go_simp; rfl); simp only [Act.put, List.setIfInBounds_toArray, List.set_cons_zero, List.set_cons_succ]))
    refine Lex.lex_nil (fun w5 hC => ?_)
    simp only [Lex.fill]
    have hB := Lib.hid (U0.out.trans hC)
    clear hC
    go_wp2
    go_ret
    exact ⟨by rw [V1.out]; rfl, hB.out⟩
  cases sn
  · have V1 : Hid (z = 1) := Lib.hid (by rw [V.out]; rfl)
    clear V
    refine Lex.wp_region_lex (by kernel_rfl) (by kernel_rfl) (by rfl) ?_
    repeat (first | (refine Lex.lex_skip (by rfl) (by rfl) (by rfl) ?_; simp only [Act.put, List.setIfInBounds_toArray, List.set_cons_zero, List.set_cons_succ]) | (refine Lex.lex_pure (c := ?_) (by rfl) (by rfl) (fun w' hC => ?_) (by rfl) ?_; rotate_left 1; (have ⟨a0, a1⟩ := FA.out w' hC; go_simp; rfl); simp only [Act.put, List.setIfInBounds_toArray, List.set_cons_zero, List.set_cons_succ]))
    refine Lex.lex_callv (f := 78) (args := #[.int .i64 e.r, .int .i64 e.n]) (.bool true) (by rfl) (by rfl) (fun w' => by go_simp) (fun w' hC => C1.out w') (by rfl) ?_
    simp only [Act.put, List.setIfInBounds_toArray, List.set_cons_zero, List.set_cons_succ]
    repeat (first | (refine Lex.lex_skip (by rfl) (by rfl) (by rfl) ?_; simp only [Act.put, List.setIfInBounds_toArray, List.set_cons_zero, List.set_cons_succ]) | (refine Lex.lex_pure (c := ?_) (by rfl) (by rfl) (fun w' hC => ?_) (by rfl) ?_; rotate_left 1; (have ⟨a0, a1, a2, a3, a4⟩ := FC.out w' hC; go_simp; rfl); simp only [Act.put, List.setIfInBounds_toArray, List.set_cons_zero, List.set_cons_succ]))
    refine Lex.lex_callv (f := 79) (args := #[.agg #[.int .i64 e.c.c0, .int .i64 e.c.c1, .int .i64 e.c.c2, .int .i64 e.c.c3, .int .i64 e.c.c4]]) (.bool false) (by rfl) (by rfl) (fun w' => by go_simp) (fun w' hC => C2.out w') (by rfl) ?_
    simp only [Act.put, List.setIfInBounds_toArray, List.set_cons_zero, List.set_cons_succ]
    repeat (first | (refine Lex.lex_skip (by rfl) (by rfl) (by rfl) ?_; simp only [Act.put, List.setIfInBounds_toArray, List.set_cons_zero, List.set_cons_succ]) | (refine Lex.lex_pure (c := ?_) (by rfl) (by rfl) (fun w' hC => ?_) (by rfl) ?_; rotate_left 1; (go_simp; rfl); simp only [Act.put, List.setIfInBounds_toArray, List.set_cons_zero, List.set_cons_succ]))
    refine Lex.lex_nil (fun w5 hC => ?_)
    simp only [Lex.fill]
    have hB := Lib.hid (U0.out.trans hC)
    clear hC
    go_wp2
    go_ret
    exact ⟨by rw [V1.out]; rfl, hB.out⟩
  obtain ⟨⟨j, hj, hj5⟩, hn, hn2⟩ := HM.out rfl
  have FD := Lib.hid (fun w' (h : Lex.Up W w') => (KA.out.up h).at_ hj5)
  have hj5' : (j : Int) < 5 := by omega
  rw [hj] at FA C1 V
  rw [show (j : Int).toNat = j from rfl] at V
  obtain ⟨d, hd⟩ : ∃ d, decide (e.c.get j = e.n - 1) = d := ⟨_, rfl⟩
  rw [hd] at V
  have hd' : (e.c.get j == e.n - 1) = d := by rw [← hd]; rfl
  clear hd
  have hwrap : IntKind.i64.wrap (e.n - 1) = e.n - 1 := IntWalk.i64_in _ ⟨by omega, by omega⟩
  rw [← hwrap] at hd'
  generalize e.c.get j = y at *
  cases d
  · have hd2 : (y != IntKind.i64.wrap (e.n - 1)) = true := by simp only [bne, hd', Bool.not_false]
    clear hd' hwrap
    have V1 : Hid (z = 1) := Lib.hid (by rw [V.out]; rfl)
    clear V
    refine Lex.wp_region_lex (by kernel_rfl) (by kernel_rfl) (by rfl) ?_
    repeat (first | (refine Lex.lex_skip (by rfl) (by rfl) (by rfl) ?_; simp only [Act.put, List.setIfInBounds_toArray, List.set_cons_zero, List.set_cons_succ]) | (refine Lex.lex_pure (c := ?_) (by rfl) (by rfl) (fun w' hC => ?_) (by rfl) ?_; rotate_left 1; (have ⟨a0, a1⟩ := FA.out w' hC; go_simp; rfl); simp only [Act.put, List.setIfInBounds_toArray, List.set_cons_zero, List.set_cons_succ]))
    refine Lex.lex_callv (f := 78) (args := #[.int .i64 (j : Int), .int .i64 e.n]) (.bool true) (by rfl) (by rfl) (fun w' => by go_simp) (fun w' hC => C1.out w') (by rfl) ?_
    simp only [Act.put, List.setIfInBounds_toArray, List.set_cons_zero, List.set_cons_succ]
    repeat (first | (refine Lex.lex_skip (by rfl) (by rfl) (by rfl) ?_; simp only [Act.put, List.setIfInBounds_toArray, List.set_cons_zero, List.set_cons_succ]) | (refine Lex.lex_pure (c := ?_) (by rfl) (by rfl) (fun w' hC => ?_) (by rfl) ?_; rotate_left 1; (have ⟨a0, a1, a2, a3, a4⟩ := FC.out w' hC; go_simp; rfl); simp only [Act.put, List.setIfInBounds_toArray, List.set_cons_zero, List.set_cons_succ]))
    refine Lex.lex_callv (f := 79) (args := #[.agg #[.int .i64 e.c.c0, .int .i64 e.c.c1, .int .i64 e.c.c2, .int .i64 e.c.c3, .int .i64 e.c.c4]]) (.bool true) (by rfl) (by rfl) (fun w' => by go_simp) (fun w' hC => C2.out w') (by rfl) ?_
    simp only [Act.put, List.setIfInBounds_toArray, List.set_cons_zero, List.set_cons_succ]
    repeat (first | (refine Lex.lex_skip (by rfl) (by rfl) (by rfl) ?_; simp only [Act.put, List.setIfInBounds_toArray, List.set_cons_zero, List.set_cons_succ]) | (refine Lex.lex_pure (c := ?_) (by rfl) (by rfl) (fun w' hC => ?_) (by rfl) ?_; rotate_left 1; (have ⟨a0, a1⟩ := FA.out w' hC; have a2 := FD.out w' hC; go_simp; rfl); simp only [Act.put, List.setIfInBounds_toArray, List.set_cons_zero, List.set_cons_succ]))
    refine Lex.lex_nil (fun w5 hC => ?_)
    simp only [Lex.fill]
    have hB := Lib.hid (U0.out.trans hC)
    clear hC
    go_wp2
    go_ret
    exact ⟨by rw [V1.out]; rfl, hB.out⟩
  have hd2 : (y != IntKind.i64.wrap (e.n - 1)) = false := by simp only [bne, hd', Bool.not_true]
  clear hd' hwrap
  cases hg
  · have V1 : Hid (z = 1) := Lib.hid (by rw [V.out]; rfl)
    clear V
    refine Lex.wp_region_lex (by kernel_rfl) (by kernel_rfl) (by rfl) ?_
    repeat (first | (refine Lex.lex_skip (by rfl) (by rfl) (by rfl) ?_; simp only [Act.put, List.setIfInBounds_toArray, List.set_cons_zero, List.set_cons_succ]) | (refine Lex.lex_pure (c := ?_) (by rfl) (by rfl) (fun w' hC => ?_) (by rfl) ?_; rotate_left 1; (have ⟨a0, a1⟩ := FA.out w' hC; go_simp; rfl); simp only [Act.put, List.setIfInBounds_toArray, List.set_cons_zero, List.set_cons_succ]))
    refine Lex.lex_callv (f := 78) (args := #[.int .i64 (j : Int), .int .i64 e.n]) (.bool true) (by rfl) (by rfl) (fun w' => by go_simp) (fun w' hC => C1.out w') (by rfl) ?_
    simp only [Act.put, List.setIfInBounds_toArray, List.set_cons_zero, List.set_cons_succ]
    repeat (first | (refine Lex.lex_skip (by rfl) (by rfl) (by rfl) ?_; simp only [Act.put, List.setIfInBounds_toArray, List.set_cons_zero, List.set_cons_succ]) | (refine Lex.lex_pure (c := ?_) (by rfl) (by rfl) (fun w' hC => ?_) (by rfl) ?_; rotate_left 1; (have ⟨a0, a1, a2, a3, a4⟩ := FC.out w' hC; go_simp; rfl); simp only [Act.put, List.setIfInBounds_toArray, List.set_cons_zero, List.set_cons_succ]))
    refine Lex.lex_callv (f := 79) (args := #[.agg #[.int .i64 e.c.c0, .int .i64 e.c.c1, .int .i64 e.c.c2, .int .i64 e.c.c3, .int .i64 e.c.c4]]) (.bool true) (by rfl) (by rfl) (fun w' => by go_simp) (fun w' hC => C2.out w') (by rfl) ?_
    simp only [Act.put, List.setIfInBounds_toArray, List.set_cons_zero, List.set_cons_succ]
    repeat (first | (refine Lex.lex_skip (by rfl) (by rfl) (by rfl) ?_; simp only [Act.put, List.setIfInBounds_toArray, List.set_cons_zero, List.set_cons_succ]) | (refine Lex.lex_pure (c := ?_) (by rfl) (by rfl) (fun w' hC => ?_) (by rfl) ?_; rotate_left 1; (have ⟨a0, a1⟩ := FA.out w' hC; have a2 := FD.out w' hC; have a3 := FH.out w' hC; go_simp; rfl); simp only [Act.put, List.setIfInBounds_toArray, List.set_cons_zero, List.set_cons_succ]))
    refine Lex.lex_callv (f := 80) (args := #[.int .i64 e.h]) (.bool false) (by rfl) (by rfl) (fun w' => by go_simp) (fun w' hC => C3.out w') (by rfl) ?_
    simp only [Act.put, List.setIfInBounds_toArray, List.set_cons_zero, List.set_cons_succ]
    repeat (first | (refine Lex.lex_skip (by rfl) (by rfl) (by rfl) ?_; simp only [Act.put, List.setIfInBounds_toArray, List.set_cons_zero, List.set_cons_succ]) | (refine Lex.lex_pure (c := ?_) (by rfl) (by rfl) (fun w' hC => ?_) (by rfl) ?_; rotate_left 1; (go_simp; rfl); simp only [Act.put, List.setIfInBounds_toArray, List.set_cons_zero, List.set_cons_succ]))
    refine Lex.lex_nil (fun w5 hC => ?_)
    simp only [Lex.fill]
    have hB := Lib.hid (U0.out.trans hC)
    clear hC
    go_wp2
    go_ret
    exact ⟨by rw [V1.out]; rfl, hB.out⟩
  have V1 : Hid (z = Tx.edit e.ed) := Lib.hid (by rw [V.out]; rfl)
  clear V
  refine Lex.wp_region_lex (by kernel_rfl) (by kernel_rfl) (by rfl) ?_
  repeat (first | (refine Lex.lex_skip (by rfl) (by rfl) (by rfl) ?_; simp only [Act.put, List.setIfInBounds_toArray, List.set_cons_zero, List.set_cons_succ]) | (refine Lex.lex_pure (c := ?_) (by rfl) (by rfl) (fun w' hC => ?_) (by rfl) ?_; rotate_left 1; (have ⟨a0, a1⟩ := FA.out w' hC; go_simp; rfl); simp only [Act.put, List.setIfInBounds_toArray, List.set_cons_zero, List.set_cons_succ]))
  refine Lex.lex_callv (f := 78) (args := #[.int .i64 (j : Int), .int .i64 e.n]) (.bool true) (by rfl) (by rfl) (fun w' => by go_simp) (fun w' hC => C1.out w') (by rfl) ?_
  simp only [Act.put, List.setIfInBounds_toArray, List.set_cons_zero, List.set_cons_succ]
  repeat (first | (refine Lex.lex_skip (by rfl) (by rfl) (by rfl) ?_; simp only [Act.put, List.setIfInBounds_toArray, List.set_cons_zero, List.set_cons_succ]) | (refine Lex.lex_pure (c := ?_) (by rfl) (by rfl) (fun w' hC => ?_) (by rfl) ?_; rotate_left 1; (have ⟨a0, a1, a2, a3, a4⟩ := FC.out w' hC; go_simp; rfl); simp only [Act.put, List.setIfInBounds_toArray, List.set_cons_zero, List.set_cons_succ]))
  refine Lex.lex_callv (f := 79) (args := #[.agg #[.int .i64 e.c.c0, .int .i64 e.c.c1, .int .i64 e.c.c2, .int .i64 e.c.c3, .int .i64 e.c.c4]]) (.bool true) (by rfl) (by rfl) (fun w' => by go_simp) (fun w' hC => C2.out w') (by rfl) ?_
  simp only [Act.put, List.setIfInBounds_toArray, List.set_cons_zero, List.set_cons_succ]
  repeat (first | (refine Lex.lex_skip (by rfl) (by rfl) (by rfl) ?_; simp only [Act.put, List.setIfInBounds_toArray, List.set_cons_zero, List.set_cons_succ]) | (refine Lex.lex_pure (c := ?_) (by rfl) (by rfl) (fun w' hC => ?_) (by rfl) ?_; rotate_left 1; (have ⟨a0, a1⟩ := FA.out w' hC; have a2 := FD.out w' hC; have a3 := FH.out w' hC; go_simp; rfl); simp only [Act.put, List.setIfInBounds_toArray, List.set_cons_zero, List.set_cons_succ]))
  refine Lex.lex_callv (f := 80) (args := #[.int .i64 e.h]) (.bool true) (by rfl) (by rfl) (fun w' => by go_simp) (fun w' hC => C3.out w') (by rfl) ?_
  simp only [Act.put, List.setIfInBounds_toArray, List.set_cons_zero, List.set_cons_succ]
  repeat (first | (refine Lex.lex_skip (by rfl) (by rfl) (by rfl) ?_; simp only [Act.put, List.setIfInBounds_toArray, List.set_cons_zero, List.set_cons_succ]) | (refine Lex.lex_pure (c := ?_) (by rfl) (by rfl) (fun w' hC => ?_) (by rfl) ?_; rotate_left 1; (go_simp; rfl); simp only [Act.put, List.setIfInBounds_toArray, List.set_cons_zero, List.set_cons_succ]))
  refine Lex.lex_nil (fun w5 hC => ?_)
  simp only [Lex.fill]
  have hB := Lib.hid (U0.out.trans hC)
  obtain ⟨a0, a1, a2, a3⟩ := (KA.out.up hC).kklv
  clear hC
  go_wp2_with fail
  refine (C4.out _).mono ?_
  rintro x w6 ⟨rfl, hb6⟩
  have hB6 := Lib.hid (hB.out.trans hb6)
  go_wp2
  go_ret
  exact ⟨by rw [V1.out]; rfl, hB6.out⟩
theorem may_any (e : Ev) (w : World) (_ : -9223372036854775808 ≤ e.n - 1) (_ : e.n ≤ 9223372036854775807) : Calls Try.prog 47 #[e.val] w fun x w' => x = .returned (.int .i64 (Ev.may e)) ∧ Below w.heap.size w w' := evmay_any e w
/-- A call of a Go function as a step of a region that draws its order. -/
theorem step_callx {P : Program} {w : World} {ops : Array Oper} {o : Oper} {a : Act} {K : Act → World → Prop} {Q : Exit → Act → World → Prop} {F : Prop} {f : FuncId} {args : Array Value} {R : Ending → World → Prop}
    (hw : Region.wanted o (yielded ops a.tmps) = true) (hc : Calls P f args w R) (he : (execOp a.eval o).run P w = .ok (.enter f args) w)
    (h : ∀ e w', R e w' → ∃ v, e = .returned v ∧ K (a.put o.dst v) w') : if Region.wanted o (yielded ops a.tmps) = true then Oper.wp P o a w K Q else F := by
  rw [if_pos hw]
  unfold Oper.wp
  simp only [he, Oper.upon]
  exact hc.mono fun e w' hr => by obtain ⟨v, rfl, hk⟩ := h e w' hr; exact hk
end Go.Proofs.Ytolpfchnfhdhkaa
