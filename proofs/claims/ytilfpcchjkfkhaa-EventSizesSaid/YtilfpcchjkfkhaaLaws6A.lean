/-
  The head of all statements of layer 6; the walk of EventBelow.
-/
import Derived.Test.YtilfpcchjkfkhaaEvM
import Derived.Test.YtilfpcchjkfkhaaEvF
import Derived.Test.YtilfpcchjkfkhaaEvY
namespace Go.Proofs.Ytilfpcchjkfkhaa
open Go.RowKit

def cyEv : Ev := ⟨1, 1, Ck.zero, 1, 1, ⟨#[99, 121]⟩, 0, ⟨#[]⟩⟩
theorem cy_may : Ev.may cyEv = 0 := by decide +kernel
theorem cy_out : Ev.out cyEv = [1, 1, 1, 0, 0, 0, 0, 1, 2, 99, 121] := by decide +kernel
theorem cy_str : str [1, 1, 1, 0, 0, 0, 0, 1, 2, 99, 121] = ⟨#[1, 1, 1, 0, 0, 0, 0, 1, 2, 99, 121]⟩ := by decide +kernel
theorem shown_any (w : World) : Calls Try.prog 8 #[] w fun e w' => e = .returned (.bool true) ∧ Below w.heap.size w w' := by
  have C := Lib.hid (fun w => eput_any cyEv w (by decide) (by decide))
  go_enter Try.func8, Try.ntmps8
  go_wp2_with fail
  refine (C.out _).mono ?_
  rintro e w1 ⟨v, rfl, hown, hb⟩
  rw [cy_out] at hown
  rw [cy_may]
  obtain ⟨A, cap, rfl, hs⟩ := slc_of_own2 hown (by decide)
  have hc : (convert 26 9 (.slice A 11 cap)).run Try.prog w1 = .ok (.string ⟨#[1, 1, 1, 0, 0, 0, 0, 1, 2, 99, 121]⟩) w1 := by
    have := conv_slc hs
    rw [cy_str] at this; exact this
  have HB := Lib.hid hb
  clear hs hown C hb
  go_wp2
  go_ret
  exact ⟨rfl, HB.out⟩
theorem up_by' {w w' : World} (h : Below w.heap.size w w') : Lex.Up w w' := h
namespace Ck
theorem rep_of {r : Int} (h0 : 0 ≤ r) (h5 : r < 5) : rep r = true := by simp [rep]; omega
theorem has_self {x : Ev} (g : Ev.Good x) : has x.c x.r x.n = false := by
  unfold has
  rw [rep_of g.r0 g.r5, g.own]
  simp; omega
theorem has_same {x y : Ev} (gx : Ev.Good x) (gy : Ev.Good y) (h : x.r = y.r) : has y.c x.r x.n = decide (x.n < y.n) := by
  unfold has
  rw [h, rep_of gy.r0 gy.r5, gy.own, Bool.true_and]
  have := gx.n1
  congr 1
  exact propext ⟨fun h => by omega, fun h => by omega⟩
theorem has_both {x y : Ev} (gx : Ev.Good x) (h1 : has y.c x.r x.n = true) (hle : ∀ j, j < 5 → x.c.get j ≤ y.c.get j ∧ y.c.get j ≤ x.c.get j) : False := by
  unfold has at h1
  simp only [Bool.and_eq_true, decide_eq_true_eq] at h1
  have := gx.r0; have := gx.r5
  have := hle x.r.toNat (by omega)
  have := gx.own
  omega
end Ck

def BelRel (x y : Ev) (one two : Bool) (W : World) (v10 v11 : Value) (wr : World) : Prop :=
  ∃ (i : Nat) (c : Bool), i ≤ 5 ∧ v11 = .int .i64 i ∧ v10 = .bool c ∧ Hid (Lex.Up W wr) ∧ Hid (c = true → ∀ j, j < i → (one = true → x.c.get j ≤ y.c.get j) ∧ (two = true → y.c.get j ≤ x.c.get j))
set_option maxRecDepth 100000 in
set_option maxHeartbeats 4000000 in
theorem law_below (a b : Ev) (w : World) (h1 : a.key.size ≤ 140737488351232) (h2 : a.v.size ≤ 140737488351232) (h3 : b.key.size ≤ 140737488351232) (h4 : b.v.size ≤ 140737488351232) :
    Calls Try.prog 5 #[a.val, b.val] w fun e w' => e = .returned (.bool true) ∧ Below w.heap.size w w' := by
  have C0 := Lib.hid (fun w => shown_any w)
  have CA := Lib.hid (fun w => fit6_any a w h1 h2)
  have CB := Lib.hid (fun w => fit6_any b w h3 h4)
  have CL := Lib.hid (fun x y w => below_any x y w)
  clear h1 h2 h3 h4
  have KA := Lib.hid ((Blk.new w a.cells 25).alloc (.cells b.cells 25))
  have KB := Lib.hid (Blk.new (w.alloc (.cells a.cells 25)) b.cells 25)
  have U0 := Lib.hid (show Below w.heap.size w ((w.alloc (.cells a.cells 25)).alloc (.cells b.cells 25)) from ((Below.refl w.heap.size w).alloc (Nat.le_refl _) _).alloc (by simp) _)
  simp only [World.size_alloc] at KB
  unfold Ev.val at *
  go_enter Try.func5, Try.ntmps5
  go_wp2_with fail
  refine (C0.out _).mono ?_
  rintro e w1 ⟨rfl, hb1⟩
  have KA1 := Lib.hid (KA.out.up hb1); have KB1 := Lib.hid (KB.out.up hb1); have U1 := Lib.hid (U0.out.trans (hb1.mono U0.out.size))
  clear KA KB U0 hb1
  obtain ⟨k0, k1, k2, k3, k4, k5, k6, k7, k8, k9, k10, k11⟩ := Blk.all w1 KA1.out
  go_wp2_with fail
  refine (CA.out _).mono ?_
  rintro e w2 ⟨x, hx, rfl, hb2⟩
  have GX := Lib.hid hx
  have KB2 := Lib.hid (KB1.out.up hb2)
  have KX := Lib.hid (Blk.new w2 x.cells 25)
  have U2 := Lib.hid (U1.out.trans (hb2.mono U1.out.size))
  have UX := Lib.hid (up_blk (cs := x.cells) (t := 25) (Lex.Up.refl w2))
  clear k0 k1 k2 k3 k4 k5 k6 k7 k8 k9 k10 k11 KA1 KB1 U1 hb2 hx
  obtain ⟨k0, k1, k2, k3, k4, k5, k6, k7, k8, k9, k10, k11⟩ := Blk.all _ KB2.out
  have lB := KB2.out.lt
  clear KB2
  simp only
  go_wp2_with fail
  refine (CB.out _).mono ?_
  rintro e w3 ⟨y, hy, rfl, hb3⟩
  have GY := Lib.hid hy
  clear k0 k1 k2 k3 k4 k5 k6 k7 k8 k9 k10 k11
  have u3 : Lex.Up w2 w3 := UX.out.trans hb3
  have JX := Lib.hid ((KX.out.up hb3).alloc (.cells y.cells 25))
  have JY := Lib.hid (Blk.new w3 y.cells 25)
  have U3 := Lib.hid (show Below w.heap.size w (w3.alloc (.cells y.cells 25)) from (U2.out.trans (u3.mono U2.out.size)).alloc (Nat.le_trans U2.out.size u3.size) _)
  clear KX U2 UX hb3 u3 hy C0 CA CB
  go_upto_region 4 with (fail)
  refine wp_named (fun W hW => ?_)
  have hW' : W = w3.alloc (.cells y.cells 25) := hW
  rw [← hW'] at JX JY U3
  clear hW hW'
  have FXA := Lib.hid (fun w' (h : Lex.Up W w') => Blk.all w' (JX.out.up h))
  have FYA := Lib.hid (fun w' (h : Lex.Up W w') => Blk.all w' (JY.out.up h))
  have EX := Ck.has_self GX.out
  have EY := Ck.has_self GY.out
  have ES := Lib.hid (fun h => Ck.has_same GX.out GY.out h)
  obtain ⟨k0, k1, k2, k3, k4, k5, k6, k7, k8, k9, k10, k11⟩ := FXA.out W (Lex.Up.refl W)
  go_wp2_with fail
  clear k0 k1 k2 k3 k4 k5 k6 k7 k8 k9 k10 k11
  refine (CL.out x x _).mono ?_
  rintro e w4 ⟨rfl, hb4⟩
  rw [EX]
  have U4 := Lib.hid (show Lex.Up W w4 from hb4)
  clear hb4
  obtain ⟨k0, k1, k2, k3, k4, k5, k6, k7, k8, k9, k10, k11⟩ := FYA.out w4 U4.out
  go_wp2_with fail
  clear k0 k1 k2 k3 k4 k5 k6 k7 k8 k9 k10 k11
  refine (CL.out y y _).mono ?_
  rintro e w5 ⟨rfl, hb5⟩
  rw [EY]
  have U5 := Lib.hid (U4.out.trans hb5)
  clear hb5 U4 EX EY
  have k0 := (FXA.out w5 U5.out).1
  have j0 := (FYA.out w5 U5.out).1
  by_cases hr : x.r = y.r
  · have d0 : (x.r == y.r) = true := by simpa using hr
    have E := ES.out hr
    rw [hr] at E
    have CC := Lib.hid (fun w => CL.out x y w)
    rw [hr, E] at CC
    rw [hr] at FXA k0 d0
    clear hr E ES
    obtain ⟨d, hd⟩ : ∃ d, decide (x.n < y.n) = d := ⟨_, rfl⟩
    rw [hd] at CC
    go_wp2
    clear k0 j0 d0
    refine Lex.wp_region_lex (by kernel_rfl) (by kernel_rfl) (by rfl) ?_
    repeat (first | (refine Lex.lex_skip (by rfl) (by rfl) (by rfl) ?_; simp only [Act.put, List.setIfInBounds_toArray, List.set_cons_zero, List.set_cons_succ]) | (refine Lex.lex_pure (c := ?_) (by rfl) (by rfl) (fun w' hC => ?_) (by rfl) ?_; rotate_left 1; (have ⟨k0, k1, k2, k3, k4, k5, k6, k7, k8, k9, k10, k11⟩ := FXA.out w' (U5.out.trans hC); have ⟨j0, j1, j2, j3, j4, j5, j6, j7, j8, j9, j10, j11⟩ := FYA.out w' (U5.out.trans hC); go_simp; rfl); simp only [Act.put, List.setIfInBounds_toArray, List.set_cons_zero, List.set_cons_succ]))
    refine Lex.lex_callv (f := 13) (args := #[.agg #[.int .i64 y.r, .int .i64 x.n, .int .i64 x.c.c0, .int .i64 x.c.c1, .int .i64 x.c.c2, .int .i64 x.c.c3, .int .i64 x.c.c4, .int .i64 x.h, .int .i64 x.k, .string x.key, .int .i64 x.l, .string x.v], .agg #[.int .i64 y.r, .int .i64 y.n, .int .i64 y.c.c0, .int .i64 y.c.c1, .int .i64 y.c.c2, .int .i64 y.c.c3, .int .i64 y.c.c4, .int .i64 y.h, .int .i64 y.k, .string y.key, .int .i64 y.l, .string y.v]]) (.bool d) (by rfl) (by rfl) (fun w' => by go_simp) (fun w' hC => CC.out w') (by rfl) ?_
    simp only [Act.put, List.setIfInBounds_toArray, List.set_cons_zero, List.set_cons_succ]
    repeat (first | (refine Lex.lex_skip (by rfl) (by rfl) (by rfl) ?_; simp only [Act.put, List.setIfInBounds_toArray, List.set_cons_zero, List.set_cons_succ]) | (refine Lex.lex_pure (c := ?_) (by rfl) (by rfl) (fun w' hC => ?_) (by rfl) ?_; rotate_left 1; (have ⟨k0, k1, k2, k3, k4, k5, k6, k7, k8, k9, k10, k11⟩ := FXA.out w' (U5.out.trans hC); have ⟨j0, j1, j2, j3, j4, j5, j6, j7, j8, j9, j10, j11⟩ := FYA.out w' (U5.out.trans hC); go_simp; rfl); simp only [Act.put, List.setIfInBounds_toArray, List.set_cons_zero, List.set_cons_succ]))
    refine Lex.lex_nil (fun w6 hC => ?_)
    simp only [Lex.fill]
    have U6 := Lib.hid (U3.out.trans ((U5.out.trans hC).mono U3.out.size))
    clear hC
    go_wp2
    go_ret
    exact ⟨rfl, U6.out⟩
  · have d0 : (x.r == y.r) = false := by simpa using hr
    clear hr ES
    obtain ⟨one, h1⟩ : ∃ one, Ck.has y.c x.r x.n = one := ⟨_, rfl⟩
    obtain ⟨two, h2⟩ : ∃ two, Ck.has x.c y.r y.n = two := ⟨_, rfl⟩
    have C1 := Lib.hid (fun w => CL.out x y w)
    have C2 := Lib.hid (fun w => CL.out y x w)
    rw [h1] at C1
    rw [h2] at C2
    have HN := Lib.hid (show one = true → (∀ j, j < 5 → x.c.get j ≤ y.c.get j ∧ y.c.get j ≤ x.c.get j) → False from fun h hle => Ck.has_both GX.out (h1.trans h) hle)
    clear h1 h2 CL
    go_upto_region 8 with (fail)
    clear k0 j0 d0
    obtain ⟨k0, k1, k2, k3, k4, k5, k6, k7, k8, k9, k10, k11⟩ := FXA.out w5 U5.out
    obtain ⟨j0, j1, j2, j3, j4, j5, j6, j7, j8, j9, j10, j11⟩ := FYA.out w5 U5.out
    go_wp2_with fail
    clear k0 k1 k2 k3 k4 k5 k6 k7 k8 k9 k10 k11 j0 j1 j2 j3 j4 j5 j6 j7 j8 j9 j10 j11
    refine (C1.out _).mono ?_
    rintro e w6 ⟨rfl, hb6⟩
    have U6 := Lib.hid (U5.out.trans hb6)
    clear hb6 U5
    obtain ⟨k0, k1, k2, k3, k4, k5, k6, k7, k8, k9, k10, k11⟩ := FXA.out w6 U6.out
    obtain ⟨j0, j1, j2, j3, j4, j5, j6, j7, j8, j9, j10, j11⟩ := FYA.out w6 U6.out
    go_wp2_with fail
    clear k0 k1 k2 k3 k4 k5 k6 k7 k8 k9 k10 k11 j0 j1 j2 j3 j4 j5 j6 j7 j8 j9 j10 j11
    refine (C2.out _).mono ?_
    rintro e w7 ⟨rfl, hb7⟩
    have U7 := Lib.hid (U6.out.trans hb7)
    clear hb7 U6 C1 C2
    go_wp2
    go_loopw [10, 11] (fun v10 v11 wr => BelRel x y one two W v10 v11 wr) (fun _ v11 _ => 5 - (intOf v11).toNat)
    case atStart => exact ⟨0, true, by omega, rfl, rfl, U7, Lib.hid (fun _ j hj => absurd hj (by omega))⟩
    case round =>
      obtain ⟨i, c, hi, rfl, rfl, KU, KC⟩ := hrel
      clear U7
      by_cases h5 : i < 5
      · have h5' : (i : Int) < 5 := by omega
        have FX := Lib.hid (fun w' (h : Lex.Up wr w') => (JX.out.up (KU.out.trans h)).at_ h5)
        have FY := Lib.hid (fun w' (h : Lex.Up wr w') => (JY.out.up (KU.out.trans h)).at_ h5)
        have KS := Lib.hid (show (c = true → (one = true → x.c.get i ≤ y.c.get i) ∧ (two = true → y.c.get i ≤ x.c.get i) → ∀ j, j < i + 1 → (one = true → x.c.get j ≤ y.c.get j) ∧ (two = true → y.c.get j ≤ x.c.get j)) from fun hc h j hj => by
          rcases Nat.lt_succ_iff_lt_or_eq.1 hj with h1 | rfl
          · exact KC.out hc j h1
          · exact h)
        clear KC
        generalize x.c.get i = p at *
        generalize y.c.get i = q at *
        go_wp2
        cases c
        · refine Lex.wp_region_lex (by kernel_rfl) (by kernel_rfl) (by rfl) ?_
          repeat (first | (refine Lex.lex_skip (by rfl) (by rfl) (by rfl) ?_; simp only [Act.put, List.setIfInBounds_toArray, List.set_cons_zero, List.set_cons_succ]) | (refine Lex.lex_pure (c := ?_) (by rfl) (by rfl) (fun w' hC => ?_) (by rfl) ?_; rotate_left 1; (have a0 := FX.out w' hC; have a1 := FY.out w' hC; go_simp; rfl); simp only [Act.put, List.setIfInBounds_toArray, List.set_cons_zero, List.set_cons_succ]))
          refine Lex.lex_nil (fun w9 hC9 => ?_)
          simp only [Lex.fill]
          have U9 := Lib.hid (KU.out.trans hC9)
          clear hC9
          go_wp2
          go_roundw
          case rel => exact ⟨i + 1, _, by omega, by go_num, rfl, U9, Lib.hid (fun h => by cases h)⟩
          case measure => simp [intOf]; omega
        cases one
        · cases two
          · refine Lex.wp_region_lex (by kernel_rfl) (by kernel_rfl) (by rfl) ?_
            repeat (first | (refine Lex.lex_skip (by rfl) (by rfl) (by rfl) ?_; simp only [Act.put, List.setIfInBounds_toArray, List.set_cons_zero, List.set_cons_succ]) | (refine Lex.lex_pure (c := ?_) (by rfl) (by rfl) (fun w' hC => ?_) (by rfl) ?_; rotate_left 1; (have a0 := FX.out w' hC; have a1 := FY.out w' hC; go_simp; rfl); simp only [Act.put, List.setIfInBounds_toArray, List.set_cons_zero, List.set_cons_succ]))
            refine Lex.lex_nil (fun w9 hC9 => ?_)
            simp only [Lex.fill]
            have U9 := Lib.hid (KU.out.trans hC9)
            clear hC9
            go_wp2
            go_roundw
            case rel => exact ⟨i + 1, _, by omega, by go_num, rfl, U9, Lib.hid (fun _ => KS.out rfl ⟨fun h => (by cases h), fun h => (by cases h)⟩)⟩
            case measure => simp [intOf]; omega
          · by_cases hq : q ≤ p
            · have d1 : decide (q ≤ p) = true := by simpa using hq
              refine Lex.wp_region_lex (by kernel_rfl) (by kernel_rfl) (by rfl) ?_
              repeat (first | (refine Lex.lex_skip (by rfl) (by rfl) (by rfl) ?_; simp only [Act.put, List.setIfInBounds_toArray, List.set_cons_zero, List.set_cons_succ]) | (refine Lex.lex_pure (c := ?_) (by rfl) (by rfl) (fun w' hC => ?_) (by rfl) ?_; rotate_left 1; (have a0 := FX.out w' hC; have a1 := FY.out w' hC; go_simp; rfl); simp only [Act.put, List.setIfInBounds_toArray, List.set_cons_zero, List.set_cons_succ]))
              refine Lex.lex_nil (fun w9 hC9 => ?_)
              simp only [Lex.fill]
              have U9 := Lib.hid (KU.out.trans hC9)
              clear hC9
              go_wp2
              go_roundw
              case rel => exact ⟨i + 1, _, by omega, by go_num, rfl, U9, Lib.hid (fun _ => KS.out rfl ⟨fun h => (by cases h), fun _ => hq⟩)⟩
              case measure => simp [intOf]; omega
            · have d1 : decide (q ≤ p) = false := by simpa using hq
              refine Lex.wp_region_lex (by kernel_rfl) (by kernel_rfl) (by rfl) ?_
              repeat (first | (refine Lex.lex_skip (by rfl) (by rfl) (by rfl) ?_; simp only [Act.put, List.setIfInBounds_toArray, List.set_cons_zero, List.set_cons_succ]) | (refine Lex.lex_pure (c := ?_) (by rfl) (by rfl) (fun w' hC => ?_) (by rfl) ?_; rotate_left 1; (have a0 := FX.out w' hC; have a1 := FY.out w' hC; go_simp; rfl); simp only [Act.put, List.setIfInBounds_toArray, List.set_cons_zero, List.set_cons_succ]))
              refine Lex.lex_nil (fun w9 hC9 => ?_)
              simp only [Lex.fill]
              have U9 := Lib.hid (KU.out.trans hC9)
              clear hC9
              go_wp2
              go_roundw
              case rel => exact ⟨i + 1, _, by omega, by go_num, rfl, U9, Lib.hid (fun h => by cases h)⟩
              case measure => simp [intOf]; omega
        · by_cases hp : p ≤ q
          · have d1 : decide (p ≤ q) = true := by simpa using hp
            cases two
            · refine Lex.wp_region_lex (by kernel_rfl) (by kernel_rfl) (by rfl) ?_
              repeat (first | (refine Lex.lex_skip (by rfl) (by rfl) (by rfl) ?_; simp only [Act.put, List.setIfInBounds_toArray, List.set_cons_zero, List.set_cons_succ]) | (refine Lex.lex_pure (c := ?_) (by rfl) (by rfl) (fun w' hC => ?_) (by rfl) ?_; rotate_left 1; (have a0 := FX.out w' hC; have a1 := FY.out w' hC; go_simp; rfl); simp only [Act.put, List.setIfInBounds_toArray, List.set_cons_zero, List.set_cons_succ]))
              refine Lex.lex_nil (fun w9 hC9 => ?_)
              simp only [Lex.fill]
              have U9 := Lib.hid (KU.out.trans hC9)
              clear hC9
              go_wp2
              go_roundw
              case rel => exact ⟨i + 1, _, by omega, by go_num, rfl, U9, Lib.hid (fun _ => KS.out rfl ⟨fun _ => hp, fun h => (by cases h)⟩)⟩
              case measure => simp [intOf]; omega
            · by_cases hq : q ≤ p
              · have d2 : decide (q ≤ p) = true := by simpa using hq
                refine Lex.wp_region_lex (by kernel_rfl) (by kernel_rfl) (by rfl) ?_
                repeat (first | (refine Lex.lex_skip (by rfl) (by rfl) (by rfl) ?_; simp only [Act.put, List.setIfInBounds_toArray, List.set_cons_zero, List.set_cons_succ]) | (refine Lex.lex_pure (c := ?_) (by rfl) (by rfl) (fun w' hC => ?_) (by rfl) ?_; rotate_left 1; (have a0 := FX.out w' hC; have a1 := FY.out w' hC; go_simp; rfl); simp only [Act.put, List.setIfInBounds_toArray, List.set_cons_zero, List.set_cons_succ]))
                refine Lex.lex_nil (fun w9 hC9 => ?_)
                simp only [Lex.fill]
                have U9 := Lib.hid (KU.out.trans hC9)
                clear hC9
                go_wp2
                go_roundw
                case rel => exact ⟨i + 1, _, by omega, by go_num, rfl, U9, Lib.hid (fun _ => KS.out rfl ⟨fun _ => hp, fun _ => hq⟩)⟩
                case measure => simp [intOf]; omega
              · have d2 : decide (q ≤ p) = false := by simpa using hq
                refine Lex.wp_region_lex (by kernel_rfl) (by kernel_rfl) (by rfl) ?_
                repeat (first | (refine Lex.lex_skip (by rfl) (by rfl) (by rfl) ?_; simp only [Act.put, List.setIfInBounds_toArray, List.set_cons_zero, List.set_cons_succ]) | (refine Lex.lex_pure (c := ?_) (by rfl) (by rfl) (fun w' hC => ?_) (by rfl) ?_; rotate_left 1; (have a0 := FX.out w' hC; have a1 := FY.out w' hC; go_simp; rfl); simp only [Act.put, List.setIfInBounds_toArray, List.set_cons_zero, List.set_cons_succ]))
                refine Lex.lex_nil (fun w9 hC9 => ?_)
                simp only [Lex.fill]
                have U9 := Lib.hid (KU.out.trans hC9)
                clear hC9
                go_wp2
                go_roundw
                case rel => exact ⟨i + 1, _, by omega, by go_num, rfl, U9, Lib.hid (fun h => by cases h)⟩
                case measure => simp [intOf]; omega
          · have d1 : decide (p ≤ q) = false := by simpa using hp
            refine Lex.wp_region_lex (by kernel_rfl) (by kernel_rfl) (by rfl) ?_
            repeat (first | (refine Lex.lex_skip (by rfl) (by rfl) (by rfl) ?_; simp only [Act.put, List.setIfInBounds_toArray, List.set_cons_zero, List.set_cons_succ]) | (refine Lex.lex_pure (c := ?_) (by rfl) (by rfl) (fun w' hC => ?_) (by rfl) ?_; rotate_left 1; (have a0 := FX.out w' hC; have a1 := FY.out w' hC; go_simp; rfl); simp only [Act.put, List.setIfInBounds_toArray, List.set_cons_zero, List.set_cons_succ]))
            refine Lex.lex_nil (fun w9 hC9 => ?_)
            simp only [Lex.fill]
            have U9 := Lib.hid (KU.out.trans hC9)
            clear hC9
            go_wp2
            go_roundw
            case rel => exact ⟨i + 1, _, by omega, by go_num, rfl, U9, Lib.hid (fun h => by cases h)⟩
            case measure => simp [intOf]; omega
      · obtain rfl : i = 5 := by omega
        have hn : (one && two && c) = false := by
          rw [← Bool.not_eq_true]
          intro h
          simp only [Bool.and_eq_true] at h
          exact HN.out h.1.1 fun j hj => ⟨(KC.out h.2 j hj).1 h.1.1, (KC.out h.2 j hj).2 h.1.2⟩
        clear hi h5 KC HN FXA FYA
        have U8 := Lib.hid (U3.out.trans (KU.out.mono U3.out.size))
        cases one
        · go_wp2
          go_ret
          exact ⟨rfl, U8.out⟩
        · cases two
          · go_wp2
            go_ret
            exact ⟨rfl, U8.out⟩
          · obtain rfl : c = false := by simpa using hn
            clear hn
            go_wp2
            go_ret
            exact ⟨rfl, U8.out⟩
end Go.Proofs.Ytilfpcchjkfkhaa
