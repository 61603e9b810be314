/-
  The head of all statements of layer 5, and the walks of TextAll and TextValues.
-/
import Derived.Test.YtalabjbnbinphaaEdW
import Derived.Test.YtalabjbnbinphaaFacts
namespace Go.Proofs.Ytalabjbnbinphaa
open Go.RowKit

set_option maxHeartbeats 400000 in
theorem shown_any (w : World) : Calls Try.prog 8 #[] w fun e w' => e = .returned (.bool true) ∧ Below w.heap.size w w' := by
  have CK := Lib.hid (fun s w => key_any s w)
  have CV := Lib.hid (fun s w => value_any s w)
  have E1 := Lib.hid (show Tx.key ⟨#[97, 110, 110]⟩ = 0 by decide)
  have E2 := Lib.hid (show Tx.key ⟨#[65, 110, 110]⟩ = 10 by decide)
  have E3 := Lib.hid (show Tx.value ⟨#[]⟩ = 12 by decide)
  go_enter Try.func8, Try.ntmps8
  go_wp2_with fail
  refine (CK.out _ _).mono ?_
  rintro e w1 ⟨rfl, hb1⟩
  rw [E1.out]
  have HB1 := Lib.hid hb1; clear hb1
  go_wp2_with fail
  refine (CK.out _ _).mono ?_
  rintro e w2 ⟨rfl, hb2⟩
  rw [E2.out]
  have HB2 := Lib.hid (HB1.out.trans (hb2.mono HB1.out.size)); clear hb2
  go_wp2_with fail
  refine (CV.out _ _).mono ?_
  rintro e w3 ⟨rfl, rfl⟩
  rw [E3.out]
  go_wp2
  go_ret
  exact ⟨rfl, HB2.out⟩

theorem val_up {f : FuncId} {args : Array Value} {v : Value} {w : World} (h : Calls Try.prog f args w fun e w' => e = .returned v ∧ w' = w) : Calls Try.prog f args w fun e w' => e = .returned v ∧ Lex.Up w w' :=
  h.mono fun _ _ ⟨h1, h2⟩ => ⟨h1, h2 ▸ Lex.Up.refl w⟩

set_option maxRecDepth 100000 in
set_option maxHeartbeats 1000000 in
theorem law_all (x : Ed) (w : World) :
    Calls Try.prog 3 #[x.val] w fun e w' => e = .returned (.bool true) ∧ Below w.heap.size w w' := by
  have C0 := Lib.hid (fun w => shown_any w)
  have C1 := Lib.hid (fun w => key_any x.key w)
  have C2 := Lib.hid (fun w => val_up (rkey_any x.key w))
  have C3 := Lib.hid (fun w => val_up (label_any x.l w))
  have C4 := Lib.hid (fun w => val_up (rlabel_any x.l w))
  have C5 := Lib.hid (fun w => val_up (value_any x.v w))
  have C6 := Lib.hid (fun w => val_up (rvalue_any x.v w))
  have C7 := Lib.hid (fun w => edit_any x w)
  have C8 := Lib.hid (fun w => redit_any x w)
  have KA := Lib.hid (Blk.new w x.cells 23)
  have U0 := Lib.hid (show Lex.Up w (w.alloc (.cells x.cells 23)) from (Below.refl w.heap.size w).alloc (Nat.le_refl _) _)
  generalize Tx.key x.key = k at *
  generalize Tx.label x.l = l at *
  generalize Tx.value x.v = v at *
  generalize Tx.edit x = r at *
  unfold Ed.val at *
  go_enter Try.func3, Try.ntmps3
  go_wp2_with fail
  refine (C0.out _).mono ?_
  rintro e w1 ⟨rfl, hb1⟩
  have KA1 := Lib.hid (KA.out.up hb1); have U1 := Lib.hid (U0.out.trans hb1)
  clear KA U0 hb1
  go_wp2
  have FA := Lib.hid (fun w' (h : Lex.Up w1 w') => (KA1.out.up h).ed)
  clear KA1
  refine Lex.wp_region_lex (by kernel_rfl) (by kernel_rfl) (by rfl) ?_
  repeat (first | (refine Lex.lex_skip (by rfl) (by rfl) (by rfl) ?_; simp only [Act.put, List.setIfInBounds_toArray, List.set_cons_zero, List.set_cons_succ]) | (refine Lex.lex_pure (c := ?_) (by rfl) (by rfl) (fun w' hC => ?_) (by rfl) ?_; rotate_left 1; (have ⟨a0, a1, a2, a3⟩ := FA.out w' hC; go_simp; rfl); simp only [Act.put, List.setIfInBounds_toArray, List.set_cons_zero, List.set_cons_succ]))
  refine Lex.lex_callv (f := 9) (args := #[.string x.key]) (.int .i64 k) (by rfl) (by rfl) (fun w' => by go_simp) (fun w' hC => C1.out w') (by rfl) ?_
  simp only [Act.put, List.setIfInBounds_toArray, List.set_cons_zero, List.set_cons_succ]
  repeat (first | (refine Lex.lex_skip (by rfl) (by rfl) (by rfl) ?_; simp only [Act.put, List.setIfInBounds_toArray, List.set_cons_zero, List.set_cons_succ]) | (refine Lex.lex_pure (c := ?_) (by rfl) (by rfl) (fun w' hC => ?_) (by rfl) ?_; rotate_left 1; (have ⟨a0, a1, a2, a3⟩ := FA.out w' hC; go_simp; rfl); simp only [Act.put, List.setIfInBounds_toArray, List.set_cons_zero, List.set_cons_succ]))
  refine Lex.lex_callv (f := 10) (args := #[.string x.key]) (.int .i64 k) (by rfl) (by rfl) (fun w' => by go_simp) (fun w' hC => C2.out w') (by rfl) ?_
  simp only [Act.put, List.setIfInBounds_toArray, List.set_cons_zero, List.set_cons_succ]
  repeat (first | (refine Lex.lex_skip (by rfl) (by rfl) (by rfl) ?_; simp only [Act.put, List.setIfInBounds_toArray, List.set_cons_zero, List.set_cons_succ]) | (refine Lex.lex_pure (c := ?_) (by rfl) (by rfl) (fun w' hC => ?_) (by rfl) ?_; rotate_left 1; (have ⟨a0, a1, a2, a3⟩ := FA.out w' hC; go_simp; rfl); simp only [Act.put, List.setIfInBounds_toArray, List.set_cons_zero, List.set_cons_succ]))
  refine Lex.lex_callv (f := 11) (args := #[.int .i64 x.l]) (.int .i64 l) (by rfl) (by rfl) (fun w' => by go_simp) (fun w' hC => C3.out w') (by rfl) ?_
  simp only [Act.put, List.setIfInBounds_toArray, List.set_cons_zero, List.set_cons_succ]
  repeat (first | (refine Lex.lex_skip (by rfl) (by rfl) (by rfl) ?_; simp only [Act.put, List.setIfInBounds_toArray, List.set_cons_zero, List.set_cons_succ]) | (refine Lex.lex_pure (c := ?_) (by rfl) (by rfl) (fun w' hC => ?_) (by rfl) ?_; rotate_left 1; (have ⟨a0, a1, a2, a3⟩ := FA.out w' hC; go_simp; rfl); simp only [Act.put, List.setIfInBounds_toArray, List.set_cons_zero, List.set_cons_succ]))
  refine Lex.lex_callv (f := 12) (args := #[.int .i64 x.l]) (.int .i64 l) (by rfl) (by rfl) (fun w' => by go_simp) (fun w' hC => C4.out w') (by rfl) ?_
  simp only [Act.put, List.setIfInBounds_toArray, List.set_cons_zero, List.set_cons_succ]
  repeat (first | (refine Lex.lex_skip (by rfl) (by rfl) (by rfl) ?_; simp only [Act.put, List.setIfInBounds_toArray, List.set_cons_zero, List.set_cons_succ]) | (refine Lex.lex_pure (c := ?_) (by rfl) (by rfl) (fun w' hC => ?_) (by rfl) ?_; rotate_left 1; (have ⟨a0, a1, a2, a3⟩ := FA.out w' hC; go_simp; rfl); simp only [Act.put, List.setIfInBounds_toArray, List.set_cons_zero, List.set_cons_succ]))
  refine Lex.lex_callv (f := 13) (args := #[.string x.v]) (.int .i64 v) (by rfl) (by rfl) (fun w' => by go_simp) (fun w' hC => C5.out w') (by rfl) ?_
  simp only [Act.put, List.setIfInBounds_toArray, List.set_cons_zero, List.set_cons_succ]
  repeat (first | (refine Lex.lex_skip (by rfl) (by rfl) (by rfl) ?_; simp only [Act.put, List.setIfInBounds_toArray, List.set_cons_zero, List.set_cons_succ]) | (refine Lex.lex_pure (c := ?_) (by rfl) (by rfl) (fun w' hC => ?_) (by rfl) ?_; rotate_left 1; (have ⟨a0, a1, a2, a3⟩ := FA.out w' hC; go_simp; rfl); simp only [Act.put, List.setIfInBounds_toArray, List.set_cons_zero, List.set_cons_succ]))
  refine Lex.lex_callv (f := 14) (args := #[.string x.v]) (.int .i64 v) (by rfl) (by rfl) (fun w' => by go_simp) (fun w' hC => C6.out w') (by rfl) ?_
  simp only [Act.put, List.setIfInBounds_toArray, List.set_cons_zero, List.set_cons_succ]
  repeat (first | (refine Lex.lex_skip (by rfl) (by rfl) (by rfl) ?_; simp only [Act.put, List.setIfInBounds_toArray, List.set_cons_zero, List.set_cons_succ]) | (refine Lex.lex_pure (c := ?_) (by rfl) (by rfl) (fun w' hC => ?_) (by rfl) ?_; rotate_left 1; (have ⟨a0, a1, a2, a3⟩ := FA.out w' hC; go_simp; rfl); simp only [Act.put, List.setIfInBounds_toArray, List.set_cons_zero, List.set_cons_succ]))
  refine Lex.lex_callv (f := 15) (args := #[.agg #[.int .i64 x.k, .string x.key, .int .i64 x.l, .string x.v]]) (.int .i64 r) (by rfl) (by rfl) (fun w' => by go_simp) (fun w' hC => C7.out w') (by rfl) ?_
  simp only [Act.put, List.setIfInBounds_toArray, List.set_cons_zero, List.set_cons_succ]
  repeat (first | (refine Lex.lex_skip (by rfl) (by rfl) (by rfl) ?_; simp only [Act.put, List.setIfInBounds_toArray, List.set_cons_zero, List.set_cons_succ]) | (refine Lex.lex_pure (c := ?_) (by rfl) (by rfl) (fun w' hC => ?_) (by rfl) ?_; rotate_left 1; (have ⟨a0, a1, a2, a3⟩ := FA.out w' hC; go_simp; rfl); simp only [Act.put, List.setIfInBounds_toArray, List.set_cons_zero, List.set_cons_succ]))
  refine Lex.lex_callv (f := 16) (args := #[.agg #[.int .i64 x.k, .string x.key, .int .i64 x.l, .string x.v]]) (.int .i64 r) (by rfl) (by rfl) (fun w' => by go_simp) (fun w' hC => C8.out w') (by rfl) ?_
  simp only [Act.put, List.setIfInBounds_toArray, List.set_cons_zero, List.set_cons_succ]
  repeat (first | (refine Lex.lex_skip (by rfl) (by rfl) (by rfl) ?_; simp only [Act.put, List.setIfInBounds_toArray, List.set_cons_zero, List.set_cons_succ]) | (refine Lex.lex_pure (c := ?_) (by rfl) (by rfl) (fun w' hC => ?_) (by rfl) ?_; rotate_left 1; (go_simp; rfl); simp only [Act.put, List.setIfInBounds_toArray, List.set_cons_zero, List.set_cons_succ]))
  refine Lex.lex_nil (fun w5 hC => ?_)
  simp only [Lex.fill]
  have hB := Lib.hid (U1.out.trans hC)
  clear hC
  go_wp2
  go_ret
  exact ⟨rfl, hB.out⟩

theorem str_size (xs : List Nat) : (str xs).size = xs.length := by
  show (str xs).data.size = _
  rw [← Array.length_toList, str, strOfNums_data]
  simp

set_option maxHeartbeats 400000 in
theorem law_values (A : Option Addr) (n cap : Nat) (xs : List Nat) (w : World) (hs : Slc w A n cap xs) :
    Calls Try.prog 5 #[.slice A n cap] w fun e w' => e = .returned (.bool true) ∧ Below w.heap.size w w' := by
  have C0 := Lib.hid (fun w => shown_any w)
  have C1 := Lib.hid (fun s w => value_any s w)
  have H := Lib.hid (show Tx.value (str xs) = if 1 ≤ n ∧ n ≤ 12 then 0 else 12 by unfold Tx.value; rw [str_size, hs.1])
  have S := Lib.hid hs; clear hs
  go_enter Try.func5, Try.ntmps5
  go_wp2_with fail
  refine (C0.out _).mono ?_
  rintro e w1 ⟨rfl, hb1⟩
  have cv := conv_slc (S.out.below hb1)
  have HB := Lib.hid hb1; clear hb1 S
  generalize str xs = s at *
  by_cases h0 : n = 0
  · rw [if_neg (by omega)] at H
    subst h0
    go_wp2_with fail
    refine (C1.out _ _).mono ?_
    rintro e w3 ⟨rfl, rfl⟩
    rw [H.out]
    go_wp2
    go_ret
    exact ⟨rfl, HB.out⟩
  have d0 : ((n : Int) == 0) = false := by simp; omega
  by_cases h12 : 12 < n
  · rw [if_neg (by omega)] at H
    go_wp2_with fail
    refine (C1.out _ _).mono ?_
    rintro e w3 ⟨rfl, rfl⟩
    rw [H.out]
    go_wp2
    go_ret
    exact ⟨rfl, HB.out⟩
  · rw [if_pos (by omega)] at H
    go_wp2_with fail
    refine (C1.out _ _).mono ?_
    rintro e w3 ⟨rfl, rfl⟩
    rw [H.out]
    go_wp2
    go_ret
    exact ⟨rfl, HB.out⟩
end Go.Proofs.Ytalabjbnbinphaa
