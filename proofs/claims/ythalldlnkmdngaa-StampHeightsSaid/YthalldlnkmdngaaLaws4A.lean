/-
  The head of all statements of layer 4, and the walks of StampOrders and StampAll.
-/
import Derived.Test.YthalldlnkmdngaaStpR
namespace Go.Proofs.Ythalldlnkmdngaa
open Go.RowKit
attribute [local go_sem ↓] Go.wp_at_zero Go.wp_at_succ

set_option maxHeartbeats 400000 in
theorem shown_any (w : World) : Calls Try.prog 8 #[] w fun e w' => e = .returned (.bool true) ∧ Below w.heap.size w w' := by
  have CA := Lib.hid (fun A cap xs w h => last_any A cap xs w h)
  have CL := Lib.hid (fun a b w => less_any a b w)
  go_enter Try.func8, Try.ntmps8
  have C1 := Lib.hid (CA.out (some ⟨w.heap.size, 0, none⟩) 4 [⟨3, 1⟩, ⟨4, 0⟩, ⟨4, 2⟩, ⟨1, 4⟩] (w.alloc (.cells (Stp.flat [⟨3, 1⟩, ⟨4, 0⟩, ⟨4, 2⟩, ⟨1, 4⟩]).toArray 23)))
  have C3 := Lib.hid (fun w => CA.out none 0 [] w (Sl.none w 2))
  have S := Lib.hid (Sl.of_blk (sz := 2) (n := 4) (cs := Stp.flat [⟨3, 1⟩, ⟨4, 0⟩, ⟨4, 2⟩, ⟨1, 4⟩]) (Blk.new w _ 23) rfl (by decide))
  go_wp2_with fail
  refine (C1.out S.out).mono ?_
  rintro e w1 ⟨rfl, hb1⟩
  rw [show Stp.last [⟨3, 1⟩, ⟨4, 0⟩, ⟨4, 2⟩, ⟨1, 4⟩] = 2 from by decide]
  have HB1 := Lib.hid (((Below.refl w.heap.size w).alloc (Nat.le_refl _) _).trans (hb1.mono (by simp))); clear hb1
  go_wp2_with fail
  refine (CL.out ⟨3, 1⟩ ⟨4, 0⟩ _).mono ?_
  rintro e w2 ⟨rfl, hb2⟩
  rw [show Stp.less ⟨3, 1⟩ ⟨4, 0⟩ = true from by decide]
  have HB2 := Lib.hid (HB1.out.trans (hb2.mono HB1.out.size)); clear hb2
  go_wp2_with fail
  refine (C3.out _).mono ?_
  rintro e w3 ⟨rfl, hb3⟩
  rw [Stp.last_nil]
  have HB3 := Lib.hid (HB2.out.trans (hb3.mono HB2.out.size)); clear hb3
  go_wp2
  go_ret
  exact ⟨rfl, HB3.out⟩

set_option maxRecDepth 100000 in
set_option maxHeartbeats 1000000 in
theorem law_orders (a b c : Stp) (w : World) :
    Calls Try.prog 4 #[a.val, b.val, c.val] w fun e w' => e = .returned (.bool true) ∧ Below w.heap.size w w' := by
  have C0 := Lib.hid (fun w => shown_any w)
  have CL := Lib.hid (fun a b w => less_any a b w)
  have NE := Lib.hid (Stp.less_ne a b)
  have TR := Lib.hid (fun (h1 : Stp.less a b = true) (h2 : Stp.less b c = true) => Stp.less_trans h1 h2)
  have Q := Lib.hid (fun w => eq_two a b w)
  have CAB := Lib.hid (fun w => less_any a b w)
  have CBA := Lib.hid (fun w => less_any b a w)
  have CBC := Lib.hid (fun w => less_any b c w)
  have CAC := Lib.hid (fun w => less_any a c w)
  generalize Stp.less a b = ab at *
  generalize Stp.less b a = ba at *
  generalize Stp.less b c = bc at *
  generalize Stp.less a c = ac at *
  have hdec : decide (a ≠ b) = !decide (a = b) := by simp
  rw [hdec] at NE
  clear hdec
  generalize decide (a = b) = d at *
  have hq : ∀ w, _ := fun w => Q.out w
  unfold Stp.val at *
  go_enter Try.func4, Try.ntmps4
  go_wp2_with fail
  have ZB := Lib.hid ((((Below.refl w.heap.size w).alloc (Nat.le_refl _) (.cells a.cells 23)).alloc (by simp) (.cells b.cells 23)).alloc (by simp; omega) (.cells c.cells 23))
  have Za := Lib.hid (((Blk.new w a.cells 23).alloc (.cells b.cells 23)).alloc (.cells c.cells 23))
  have Zb := Lib.hid ((Blk.new (w.alloc (.cells a.cells 23)) b.cells 23).alloc (.cells c.cells 23))
  have Zc := Lib.hid (Blk.new ((w.alloc (.cells a.cells 23)).alloc (.cells b.cells 23)) c.cells 23)
  simp only [World.size_alloc] at Zb Zc
  refine (C0.out _).mono ?_
  rintro e w1 ⟨rfl, hb1⟩
  have K1a := Lib.hid (Za.out.up hb1); have K1b := Lib.hid (Zb.out.up hb1); have K1c := Lib.hid (Zc.out.up hb1); have B1 := Lib.hid (ZB.out.trans (hb1.mono ZB.out.size))
  clear Za Zb Zc ZB hb1
  have ⟨a0, a1⟩ := K1a.out.st; have ⟨b0, b1⟩ := K1b.out.st; have ⟨c0, c1⟩ := K1c.out.st
  go_wp2_with fail
  clear a0 a1 b0 b1 c0 c1
  refine (CAB.out _).mono ?_
  rintro e w2 ⟨rfl, hb2⟩
  have K2a := Lib.hid (K1a.out.up hb2); have K2b := Lib.hid (K1b.out.up hb2); have K2c := Lib.hid (K1c.out.up hb2); have B2 := Lib.hid (B1.out.trans (hb2.mono B1.out.size))
  clear K1a K1b K1c B1 hb2
  have ⟨a0, a1⟩ := K2a.out.st; have ⟨b0, b1⟩ := K2b.out.st; have ⟨c0, c1⟩ := K2c.out.st
  go_wp2_with fail
  clear a0 a1 b0 b1 c0 c1
  refine (CBA.out _).mono ?_
  rintro e w3 ⟨rfl, hb3⟩
  have K3a := Lib.hid (K2a.out.up hb3); have K3b := Lib.hid (K2b.out.up hb3); have K3c := Lib.hid (K2c.out.up hb3); have B3 := Lib.hid (B2.out.trans (hb3.mono B2.out.size))
  clear K2a K2b K2c B2 hb3
  have ⟨a0, a1⟩ := K3a.out.st; have ⟨b0, b1⟩ := K3b.out.st; have ⟨c0, c1⟩ := K3c.out.st
  cases ab
  · have ne : (ba == !d) = true := by have := NE.out; simpa using this
    go_wp2_with fail
    clear a0 a1 b0 b1 c0 c1
    refine (CL.out a a _).mono ?_
    rintro e w9 ⟨rfl, hb9⟩
    have K9a := Lib.hid (K3a.out.up hb9); have K9b := Lib.hid (K3b.out.up hb9); have K9c := Lib.hid (K3c.out.up hb9); have B9 := Lib.hid (B3.out.trans (hb9.mono B3.out.size))
    clear K3a K3b K3c B3 hb9
    rw [Stp.less_self]
    go_wp2
    go_ret
    exact ⟨rfl, B9.out⟩
  · have ne : ((!ba) == !d) = true := by have := NE.out; simpa using this
    go_wp2_with fail
    clear a0 a1 b0 b1 c0 c1
    refine (CBC.out _).mono ?_
    rintro e w4 ⟨rfl, hb4⟩
    have K4a := Lib.hid (K3a.out.up hb4); have K4b := Lib.hid (K3b.out.up hb4); have K4c := Lib.hid (K3c.out.up hb4); have B4 := Lib.hid (B3.out.trans (hb4.mono B3.out.size))
    clear K3a K3b K3c B3 hb4
    have ⟨a0, a1⟩ := K4a.out.st; have ⟨b0, b1⟩ := K4b.out.st; have ⟨c0, c1⟩ := K4c.out.st
    cases bc
    · go_wp2_with fail
      clear a0 a1 b0 b1 c0 c1
      refine (CL.out a a _).mono ?_
      rintro e w9 ⟨rfl, hb9⟩
      have K9a := Lib.hid (K4a.out.up hb9); have K9b := Lib.hid (K4b.out.up hb9); have K9c := Lib.hid (K4c.out.up hb9); have B9 := Lib.hid (B4.out.trans (hb9.mono B4.out.size))
      clear K4a K4b K4c B4 hb9
      rw [Stp.less_self]
      go_wp2
      go_ret
      exact ⟨rfl, B9.out⟩
    · obtain rfl : ac = true := TR.out (by simp) (by simp)
      go_wp2_with fail
      clear a0 a1 b0 b1 c0 c1
      refine (CAC.out _).mono ?_
      rintro e w5 ⟨rfl, hb5⟩
      have K5a := Lib.hid (K4a.out.up hb5); have K5b := Lib.hid (K4b.out.up hb5); have K5c := Lib.hid (K4c.out.up hb5); have B5 := Lib.hid (B4.out.trans (hb5.mono B4.out.size))
      clear K4a K4b K4c B4 hb5
      have ⟨a0, a1⟩ := K5a.out.st; have ⟨b0, b1⟩ := K5b.out.st; have ⟨c0, c1⟩ := K5c.out.st
      go_wp2_with fail
      clear a0 a1 b0 b1 c0 c1
      refine (CL.out a a _).mono ?_
      rintro e w9 ⟨rfl, hb9⟩
      have K9a := Lib.hid (K5a.out.up hb9); have K9b := Lib.hid (K5b.out.up hb9); have K9c := Lib.hid (K5c.out.up hb9); have B9 := Lib.hid (B5.out.trans (hb9.mono B5.out.size))
      clear K5a K5b K5c B5 hb9
      rw [Stp.less_self]
      go_wp2
      go_ret
      exact ⟨rfl, B9.out⟩

/-- A slice of at most 30 of these stamps. -/
theorem few_val (A : Option Addr) (n cap : Nat) (w : World) (hc : n ≤ cap) : Calls Try.prog 12 #[.slice A n cap] w fun e w' => e = .returned (.slice A (min n 30) cap) ∧ Lex.Up w w' :=
  (few_any A n cap w hc).mono fun _ _ ⟨h1, h2⟩ => ⟨h1, h2 ▸ Lex.Up.refl w⟩

set_option maxRecDepth 100000 in
set_option maxHeartbeats 1000000 in
theorem law_all (a b : Stp) (A : Option Addr) (n cap : Nat) (xs : List Stp) (w : World) (hs : Sl w 2 A n cap (Stp.flat xs)) :
    Calls Try.prog 3 #[a.val, b.val, .slice A n cap] w fun e w' => e = .returned (.bool true) ∧ Below w.heap.size w w' := by
  have C0 := Lib.hid (fun w => shown_any w)
  have FEW := Lib.hid (fun w => few_val A n cap w hs.2.1)
  have S := Lib.hid (few_stp hs)
  have CL := Lib.hid (fun w => less_any a b w)
  have RL := Lib.hid (fun w => rless_any a b w)
  have hl : (xs.take 30).length = min n 30 := by have := hs.1; rw [Stp.flat_length] at this; rw [List.length_take]; omega
  have CA := Lib.hid (fun w h => last_any A cap (xs.take 30) w h)
  have RA := Lib.hid (fun w h => rlast_any A cap (xs.take 30) w h)
  rw [hl] at CA RA
  clear hl hs
  generalize Stp.less a b = ab at *
  generalize Stp.last (xs.take 30) = z at *
  generalize xs.take 30 = ys at *
  generalize min n 30 = m at *
  unfold Stp.val at *
  go_enter Try.func3, Try.ntmps3
  go_wp2_with fail
  have KA := Lib.hid ((Blk.new w a.cells 23).alloc (.cells b.cells 23))
  have KB := Lib.hid (Blk.new (w.alloc (.cells a.cells 23)) b.cells 23)
  simp only [World.size_alloc] at KB
  have u0 : Lex.Up w ((w.alloc (.cells a.cells 23)).alloc (.cells b.cells 23)) := ((Below.refl w.heap.size w).alloc (Nat.le_refl _) _).alloc (by simp) _
  have U0 := Lib.hid u0; clear u0
  refine (C0.out _).mono ?_
  rintro e w1 ⟨rfl, hb1⟩
  have KA1 := Lib.hid (KA.out.up hb1); have KB1 := Lib.hid (KB.out.up hb1); have U1 := Lib.hid (U0.out.trans hb1)
  clear KA KB U0 hb1
  go_wp2
  have FA := Lib.hid (fun w' (h : Lex.Up w1 w') => (KA1.out.up h).st)
  have FB := Lib.hid (fun w' (h : Lex.Up w1 w') => (KB1.out.up h).st)
  have FS := Lib.hid (fun w' (h : Lex.Up w1 w') => S.out.up (U1.out.trans h))
  clear KA1 KB1
  refine Lex.wp_region_lex (by kernel_rfl) (by kernel_rfl) (by rfl) ?_
  repeat (first | (refine Lex.lex_skip (by rfl) (by rfl) (by rfl) ?_; simp only [Act.put, List.setIfInBounds_toArray, List.set_cons_zero, List.set_cons_succ]) | (refine Lex.lex_pure (c := ?_) (by rfl) (by rfl) (fun w' hC => ?_) (by rfl) ?_; rotate_left 1; (have ⟨a0, a1⟩ := FA.out w' hC; have ⟨b0, b1⟩ := FB.out w' hC; go_simp; rfl); simp only [Act.put, List.setIfInBounds_toArray, List.set_cons_zero, List.set_cons_succ]))
  refine Lex.lex_callv (f := 9) (args := #[.agg #[.int .i64 a.h, .int .i64 a.r], .agg #[.int .i64 b.h, .int .i64 b.r]]) (.bool ab) (by rfl) (by rfl) (fun w' => by go_simp) (fun w' hC => CL.out w') (by rfl) ?_
  simp only [Act.put, List.setIfInBounds_toArray, List.set_cons_zero, List.set_cons_succ]
  repeat (first | (refine Lex.lex_skip (by rfl) (by rfl) (by rfl) ?_; simp only [Act.put, List.setIfInBounds_toArray, List.set_cons_zero, List.set_cons_succ]) | (refine Lex.lex_pure (c := ?_) (by rfl) (by rfl) (fun w' hC => ?_) (by rfl) ?_; rotate_left 1; (have ⟨a0, a1⟩ := FA.out w' hC; have ⟨b0, b1⟩ := FB.out w' hC; go_simp; rfl); simp only [Act.put, List.setIfInBounds_toArray, List.set_cons_zero, List.set_cons_succ]))
  refine Lex.lex_callv (f := 10) (args := #[.agg #[.int .i64 a.h, .int .i64 a.r], .agg #[.int .i64 b.h, .int .i64 b.r]]) (.bool ab) (by rfl) (by rfl) (fun w' => by go_simp) (fun w' hC => RL.out w') (by rfl) ?_
  simp only [Act.put, List.setIfInBounds_toArray, List.set_cons_zero, List.set_cons_succ]
  repeat (first | (refine Lex.lex_skip (by rfl) (by rfl) (by rfl) ?_; simp only [Act.put, List.setIfInBounds_toArray, List.set_cons_zero, List.set_cons_succ]) | (refine Lex.lex_pure (c := ?_) (by rfl) (by rfl) (fun w' hC => ?_) (by rfl) ?_; rotate_left 1; (go_simp; rfl); simp only [Act.put, List.setIfInBounds_toArray, List.set_cons_zero, List.set_cons_succ]))
  refine Lex.lex_callv (f := 12) (args := #[.slice A n cap]) (.slice A m cap) (by rfl) (by rfl) (fun w' => by go_simp) (fun w' hC => FEW.out w') (by rfl) ?_
  simp only [Act.put, List.setIfInBounds_toArray, List.set_cons_zero, List.set_cons_succ]
  refine Lex.lex_callv (f := 11) (args := #[.slice A m cap]) (.int .i64 z) (by rfl) (by rfl) (fun w' => by go_simp) (fun w' hC => CA.out w' (FS.out w' hC)) (by rfl) ?_
  simp only [Act.put, List.setIfInBounds_toArray, List.set_cons_zero, List.set_cons_succ]
  repeat (first | (refine Lex.lex_skip (by rfl) (by rfl) (by rfl) ?_; simp only [Act.put, List.setIfInBounds_toArray, List.set_cons_zero, List.set_cons_succ]) | (refine Lex.lex_pure (c := ?_) (by rfl) (by rfl) (fun w' hC => ?_) (by rfl) ?_; rotate_left 1; (go_simp; rfl); simp only [Act.put, List.setIfInBounds_toArray, List.set_cons_zero, List.set_cons_succ]))
  refine Lex.lex_callv (f := 12) (args := #[.slice A n cap]) (.slice A m cap) (by rfl) (by rfl) (fun w' => by go_simp) (fun w' hC => FEW.out w') (by rfl) ?_
  simp only [Act.put, List.setIfInBounds_toArray, List.set_cons_zero, List.set_cons_succ]
  refine Lex.lex_callv (f := 13) (args := #[.slice A m cap]) (.int .i64 z) (by rfl) (by rfl) (fun w' => by go_simp) (fun w' hC => RA.out w' (FS.out w' hC)) (by rfl) ?_
  simp only [Act.put, List.setIfInBounds_toArray, List.set_cons_zero, List.set_cons_succ]
  repeat (first | (refine Lex.lex_skip (by rfl) (by rfl) (by rfl) ?_; simp only [Act.put, List.setIfInBounds_toArray, List.set_cons_zero, List.set_cons_succ]) | (refine Lex.lex_pure (c := ?_) (by rfl) (by rfl) (fun w' hC => ?_) (by rfl) ?_; rotate_left 1; (go_simp; rfl); simp only [Act.put, List.setIfInBounds_toArray, List.set_cons_zero, List.set_cons_succ]))
  refine Lex.lex_nil (fun w5 hC => ?_)
  simp only [Lex.fill]
  have hB := Lib.hid (U1.out.trans hC)
  clear hC
  go_wp2
  go_ret
  exact ⟨rfl, hB.out⟩
end Go.Proofs.Ythalldlnkmdngaa
