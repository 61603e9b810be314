/-
  The walks of CrcEnds, CrcApart and CrcParts.
-/
import Derived.Test.YtlhcidpegglnfaaShown2
namespace Go.Proofs.Ytlhcidpegglnfaa
open Go.RowKit
attribute [local go_sem ↓] Go.wp_at_zero Go.wp_at_succ

/-- What is opened, if it is open; else none. -/
def Cr.opened (xs : List Nat) : List Nat := if Cr.opens xs then xs.take (xs.length - 4) else []
def OpenVal (w : World) (xs : List Nat) (e : Ending) (w' : World) : Prop :=
  ∃ A c, e = .returned (.tuple #[.slice A (Cr.opened xs).length c, .bool (Cr.opens xs)]) ∧ Slc w' A (Cr.opened xs).length c (Cr.opened xs) ∧ Below w.heap.size w w'
theorem slc_none (w : World) : Slc w none 0 0 [] := ⟨rfl, Nat.le_refl _, by decide, fun j => by simp [Pl.nth], fun h => by omega⟩
theorem openVal_of {w : World} {xs : List Nat} (hx : ∀ x ∈ xs, x < 256) (e : Ending) (w' : World) (h : OpenPost w xs e w') : OpenVal w xs e w' := by
  obtain ⟨hb, ⟨ho, v, rfl, hown⟩ | ⟨ho, rfl⟩⟩ := h
  · have e : Cr.opened xs = xs.take (xs.length - 4) := by unfold Cr.opened; rw [ho]; rfl
    obtain ⟨A, c, rfl, hs⟩ := slc_of_own2 hown fun x h => hx x (List.mem_of_mem_take h)
    have hl : (Cr.opened xs).length = xs.length - 4 := by rw [e, List.length_take]; omega
    exact ⟨A, c, by rw [ho, hl], by rw [hl, e]; exact hs, hb⟩
  · have e : Cr.opened xs = [] := by unfold Cr.opened; rw [ho]; rfl
    exact ⟨none, 0, by rw [ho, e]; rfl, by rw [e]; exact slc_none _, hb⟩
theorem open_val (A : Option Addr) (n cap : Nat) (xs : List Nat) (w : World) (h : Slc w A n cap xs) (hn : n ≤ 1000) : Calls Try.prog 11 #[.slice A n cap] w (OpenVal w xs) :=
  (open_any A n cap xs w h hn).mono (openVal_of (Pl.lt_of_nth h.2.2.2.1))
theorem ropen_val (A : Option Addr) (n cap : Nat) (xs : List Nat) (w : World) (h : Slc w A n cap xs) (hn : n ≤ 1000) : Calls Try.prog 12 #[.slice A n cap] w (OpenVal w xs) :=
  (ropen_any A n cap xs w h hn).mono (openVal_of (Pl.lt_of_nth h.2.2.2.1))
theorem u32_nat {a : Int} (h : (Lit.int .u32 a).wf = true) : ∃ n : Nat, a = n ∧ n < 4294967296 := by
  simp [Lit.wf, IntKind.min, IntKind.max, IntKind.bits, IntKind.signed] at h
  exact ⟨a.toNat, by omega, by omega⟩

set_option maxRecDepth 100000 in
set_option maxHeartbeats 800000 in
theorem law_ends (A : Option Addr) (n cap : Nat) (xs : List Nat) (w : World) (hs : Slc w A n cap xs) :
    Calls Try.prog 8 #[.slice A n cap] w fun e w' => e = .returned (.bool true) ∧ Below w.heap.size w w' := by
  have FEW := Lib.hid (fun w => few_any A n cap w hs.2.1 hs.2.2.1)
  obtain ⟨m, hm⟩ : ∃ m, min n 300 = m := ⟨_, rfl⟩
  have S := Lib.hid (hs.take_ (u := m) (by omega))
  rw [hm] at FEW
  have m300 : m ≤ 300 := by omega
  have mc : m ≤ cap := by have := hs.2.1; omega
  have c63 := hs.2.2.1
  clear hm hs
  generalize xs.take m = ys at *
  obtain ⟨k, hk⟩ : ∃ k, min m 3 = k := ⟨_, rfl⟩
  have k3 : k ≤ 3 := by omega
  have T := Lib.hid (S.out.take_ (u := k) (by omega))
  have C0 := Lib.hid (shown_any w)
  have CO := Lib.hid (fun w (h : Slc w A k cap (ys.take k)) => open_val A k cap _ w h (by omega))
  have CS := Lib.hid (fun w (h : Slc w A m cap ys) => seal_any A m cap ys w h (by omega))
  have CM := Lib.hid (fun A n cap xs w (h : Slc w A n cap xs) => sum_any A n cap xs w h)
  have ho : Cr.opens (ys.take k) = false := by unfold Cr.opens; rw [T.out.1, decide_eq_false (by omega)]; rfl
  have he : Cr.opened (ys.take k) = [] := by unfold Cr.opened; rw [ho]; rfl
  have HX := Lib.hid (Pl.lt_of_nth S.out.2.2.2.1)
  have SU := Lib.hid (Cr.sum_sealed HX.out)
  have SX := Lib.hid (Cr.sealed_lt HX.out)
  generalize Cr.sealed ys = zs at *
  have HO := Lib.hid ho
  have HE := Lib.hid he
  clear ho he
  have hw : (k = m ∧ (m : Int) ≤ 3) ∨ (k = 3 ∧ ¬ (m : Int) ≤ 3) := by omega
  clear hk k3
  rcases hw with ⟨rfl, h3⟩ | ⟨rfl, h3⟩
  all_goals
    go_enter Try.func8, Try.ntmps8
    go_wp2_with fail
    refine C0.out.mono ?_
    rintro e w1 ⟨rfl, hb1⟩
    have S1 := Lib.hid (S.out.below hb1)
    have T1 := Lib.hid (T.out.below hb1)
    go_wp2_with fail
    refine (FEW.out _).mono ?_
    rintro e w' ⟨rfl, rfl⟩
    go_wp2_with fail
    refine (CO.out _ T1.out).mono ?_
    rintro e w2 ⟨A2, c2, rfl, s2, hb2⟩
    rw [HE.out, HO.out]
    have S2 := Lib.hid (S1.out.below hb2)
    have B2 := Lib.hid (hb1.trans (hb2.mono hb1.size))
    clear s2 hb2 hb1
    go_wp2_with fail
    refine (CS.out _ S2.out).mono ?_
    rintro e w3 ⟨A3, c3, rfl, hown3, hb3⟩
    have S3 := Lib.hid (slc_of_own hown3 SX.out)
    have B3 := Lib.hid (B2.out.trans (hb3.mono B2.out.size))
    clear hown3 hb3
    go_wp2_with fail
    refine (CM.out _ _ _ _ _ S3.out).mono ?_
    rintro e w' ⟨rfl, rfl⟩
    rw [SU.out]
    go_wp2
    go_ret
    exact ⟨rfl, B3.out⟩

set_option maxRecDepth 100000 in
set_option maxHeartbeats 2000000 in
theorem law_apart (a b c0 c1 : Nat) (w : World) (ha : a < 4294967296) (hb : b < 4294967296) (h0 : c0 < 256) (h1 : c1 < 256) :
    Calls Try.prog 6 #[.int .u32 a, .int .u32 b, .agg #[.int .u8 c0, .int .u8 c1]] w fun e w' => e = .returned (.bool true) ∧ Below w.heap.size w w' := by
  have C0 := Lib.hid (fun w => shown_any w)
  have CA0 := Lib.hid (fun w => step_any a c0 w ha h0)
  have CB0 := Lib.hid (fun w => step_any b c0 w hb h0)
  have CA1 := Lib.hid (fun w => step_any a c1 w ha h1)
  have q1 : (((Cr.step a c0 : Nat) : Int) == ((Cr.step b c0 : Nat) : Int)) = ((a : Int) == (b : Int)) := by
    have := Cr.step_byte ha hb h0
    rw [Bool.eq_iff_iff]; simp only [beq_iff_eq]; omega
  have q2 : (((Cr.step a c0 : Nat) : Int) == ((Cr.step a c1 : Nat) : Int)) = ((c0 : Int) == (c1 : Int)) := by
    have := Cr.step_reg ha h0 h1
    rw [Bool.eq_iff_iff]; simp only [beq_iff_eq]; omega
  generalize Cr.step a c0 = sa0 at *
  generalize Cr.step b c0 = sb0 at *
  generalize Cr.step a c1 = sa1 at *
  obtain ⟨r1, hr1⟩ : ∃ r, ((a : Int) == (b : Int)) = r := ⟨_, rfl⟩
  obtain ⟨r2, hr2⟩ : ∃ r, ((c0 : Int) == (c1 : Int)) = r := ⟨_, rfl⟩
  rw [hr1] at q1
  rw [hr2] at q2
  clear ha hb h0 h1
  go_enter Try.func6, Try.ntmps6
  go_wp2_with fail
  refine (C0.out _).mono ?_
  rintro e w1 ⟨rfl, hb1⟩
  have d0 : w1.cell? ⟨w.heap.size, 0, none⟩ = some (.int .u8 c0) := by
    rw [hb1.cell (p := ⟨w.heap.size, 0, none⟩) (by simp), World.cell?_alloc_at _ _ _ _ rfl]; rfl
  have d1 : w1.cell? ⟨w.heap.size, 1, none⟩ = some (.int .u8 c1) := by
    rw [hb1.cell (p := ⟨w.heap.size, 1, none⟩) (by simp), World.cell?_alloc_at _ _ _ _ rfl]; rfl
  have hlt : w.heap.size < w1.heap.size := by have := hb1.size; simp at this; omega
  have D0 := Lib.hid (fun w' (h : Lex.Up w1 w') => (h.cell (p := ⟨w.heap.size, 0, none⟩) hlt).trans d0)
  have D1 := Lib.hid (fun w' (h : Lex.Up w1 w') => (h.cell (p := ⟨w.heap.size, 1, none⟩) hlt).trans d1)
  have B1 := Lib.hid (((Below.refl w.heap.size w).alloc (Nat.le_refl _) (.cells #[.int .u8 c0, .int .u8 c1] 33)).trans (hb1.mono (by simp)))
  clear hb1 d0 d1 hlt
  go_wp2
  refine Lex.wp_region_lex (by kernel_rfl) (by kernel_rfl) (by rfl) ?_
  repeat (refine Lex.lex_pure (c := ?_) (by rfl) (by rfl) (fun w' hC => ?_) (by rfl) ?_; rotate_left 1; (have d0 := D0.out w' hC; have d1 := D1.out w' hC; go_simp; rfl); simp only [Act.put, List.setIfInBounds_toArray, List.set_cons_zero, List.set_cons_succ])
  refine Lex.lex_callv (f := 15) (args := #[.int .u32 a, .int .u8 c0]) (.int .u32 sa0) (by rfl) (by rfl) (fun w' => by go_simp) (fun w' hC => (CA0.out w').mono fun e w2 he => ⟨he.1, he.2 ▸ Lex.Up.refl _⟩) (by rfl) ?_
  simp only [Act.put, List.setIfInBounds_toArray, List.set_cons_zero, List.set_cons_succ]
  repeat (refine Lex.lex_pure (c := ?_) (by rfl) (by rfl) (fun w' hC => ?_) (by rfl) ?_; rotate_left 1; (have d0 := D0.out w' hC; have d1 := D1.out w' hC; go_simp; rfl); simp only [Act.put, List.setIfInBounds_toArray, List.set_cons_zero, List.set_cons_succ])
  refine Lex.lex_callv (f := 15) (args := #[.int .u32 b, .int .u8 c0]) (.int .u32 sb0) (by rfl) (by rfl) (fun w' => by go_simp) (fun w' hC => (CB0.out w').mono fun e w2 he => ⟨he.1, he.2 ▸ Lex.Up.refl _⟩) (by rfl) ?_
  simp only [Act.put, List.setIfInBounds_toArray, List.set_cons_zero, List.set_cons_succ]
  repeat (refine Lex.lex_pure (c := ?_) (by rfl) (by rfl) (fun w' hC => ?_) (by rfl) ?_; rotate_left 1; (have d0 := D0.out w' hC; have d1 := D1.out w' hC; go_simp; rfl); simp only [Act.put, List.setIfInBounds_toArray, List.set_cons_zero, List.set_cons_succ])
  refine Lex.lex_callv (f := 15) (args := #[.int .u32 a, .int .u8 c0]) (.int .u32 sa0) (by rfl) (by rfl) (fun w' => by go_simp) (fun w' hC => (CA0.out w').mono fun e w2 he => ⟨he.1, he.2 ▸ Lex.Up.refl _⟩) (by rfl) ?_
  simp only [Act.put, List.setIfInBounds_toArray, List.set_cons_zero, List.set_cons_succ]
  repeat (refine Lex.lex_pure (c := ?_) (by rfl) (by rfl) (fun w' hC => ?_) (by rfl) ?_; rotate_left 1; (have d0 := D0.out w' hC; have d1 := D1.out w' hC; go_simp; rfl); simp only [Act.put, List.setIfInBounds_toArray, List.set_cons_zero, List.set_cons_succ])
  refine Lex.lex_callv (f := 15) (args := #[.int .u32 a, .int .u8 c1]) (.int .u32 sa1) (by rfl) (by rfl) (fun w' => by go_simp) (fun w' hC => (CA1.out w').mono fun e w2 he => ⟨he.1, he.2 ▸ Lex.Up.refl _⟩) (by rfl) ?_
  simp only [Act.put, List.setIfInBounds_toArray, List.set_cons_zero, List.set_cons_succ]
  repeat (refine Lex.lex_pure (c := ?_) (by rfl) (by rfl) (fun w' hC => ?_) (by rfl) ?_; rotate_left 1; (have d0 := D0.out w' hC; have d1 := D1.out w' hC; go_simp; rfl); simp only [Act.put, List.setIfInBounds_toArray, List.set_cons_zero, List.set_cons_succ])
  refine Lex.lex_nil (fun w2 hC => ?_)
  simp only [Lex.fill]
  have hB := Lib.hid (B1.out.trans (hC.mono B1.out.size))
  clear hC
  go_wp2
  go_ret
  exact ⟨rfl, hB.out⟩

/-- The register behind the bytes so far. -/
def PartsRel (r0 : Nat) (ys : List Nat) (v8 v9 : Value) : Prop := ∃ k : Nat, k ≤ ys.length ∧ v9 = .int .i64 k ∧ v8 = .int .u32 (Cr.reg r0 (ys.take k))

set_option maxRecDepth 100000 in
set_option maxHeartbeats 2000000 in
theorem law_parts (A1 A2 : Option Addr) (n1 cap1 n2 cap2 : Nat) (xs1 xs2 : List Nat) (w : World) (hs1 : Slc w A1 n1 cap1 xs1) (hs2 : Slc w A2 n2 cap2 xs2) :
    Calls Try.prog 4 #[.slice A1 n1 cap1, .slice A2 n2 cap2] w fun e w' => e = .returned (.bool true) ∧ Below w.heap.size w w' := by
  have FEW1 := Lib.hid (fun w => few_any A1 n1 cap1 w hs1.2.1 hs1.2.2.1)
  have FEW2 := Lib.hid (fun w => few_any A2 n2 cap2 w hs2.2.1 hs2.2.2.1)
  obtain ⟨m1, hm1⟩ : ∃ m, min n1 300 = m := ⟨_, rfl⟩
  obtain ⟨m2, hm2⟩ : ∃ m, min n2 300 = m := ⟨_, rfl⟩
  have S1 := Lib.hid (hs1.take_ (u := m1) (by omega))
  have S2 := Lib.hid (hs2.take_ (u := m2) (by omega))
  rw [hm1] at FEW1
  rw [hm2] at FEW2
  have b1 : m1 ≤ 300 := by omega
  have b2 : m2 ≤ 300 := by omega
  clear hm1 hm2 hs1 hs2
  generalize xs1.take m1 = ys1 at *
  generalize xs2.take m2 = ys2 at *
  have L1 := S1.out.1
  have L2 := S2.out.1
  have Y1 := Lib.hid (Pl.lt_of_nth S1.out.2.2.2.1)
  have Y2 := Lib.hid (Pl.lt_of_nth S2.out.2.2.2.1)
  have C0 := Lib.hid (fun w => shown_any w)
  have CM := Lib.hid (fun A n cap xs w (h : Slc w A n cap xs) => sum_any A n cap xs w h)
  have C1 := Lib.hid (fun r c w (h : r < 4294967296) (hc : c < 256) => step_any r c w h hc)
  obtain ⟨r0, hr0⟩ : ∃ r, Cr.reg 4294967295 ys1 = r := ⟨_, rfl⟩
  have r0lt : r0 < 4294967296 := by rw [← hr0]; exact Cr.reg_lt _ (by omega) Y1.out
  have hsum1 : Cr.sum ys1 = 4294967295 - r0 := by unfold Cr.sum; rw [hr0]
  have hsum2 : Cr.sum (ys1 ++ ys2) = 4294967295 - Cr.reg r0 ys2 := by unfold Cr.sum; rw [Cr.reg_append, hr0]
  have RL := Lib.hid (fun k => Cr.reg_lt (ys2.take k) r0lt (fun x hx => Y2.out x (List.mem_of_mem_take hx)))
  have X1 := Lib.hid (not_word (q := 4294967295 - r0) (by omega))
  rw [show 4294967295 - (4294967295 - r0) = r0 by omega] at X1
  have H1 := Lib.hid hsum1
  have H2 := Lib.hid hsum2
  clear hr0 hsum1 hsum2 r0lt
  subst L2
  go_enter Try.func4, Try.ntmps4
  go_wp2_with fail
  refine (C0.out _).mono ?_
  rintro e w1 ⟨rfl, hb1⟩
  have T1 := Lib.hid (S1.out.below hb1)
  have T2 := Lib.hid (S2.out.below hb1)
  have B1 := Lib.hid hb1
  clear hb1
  go_wp2_with fail
  refine (FEW1.out _).mono ?_
  rintro e w' ⟨rfl, rfl⟩
  go_wp2_with fail
  refine (FEW2.out _).mono ?_
  rintro e w' ⟨rfl, rfl⟩
  go_wp2_with fail
  refine (CM.out _ _ _ _ _ T1.out).mono ?_
  rintro e w' ⟨rfl, rfl⟩
  rw [H1.out]
  go_wp2
  go_loop [8, 9] (fun v8 v9 => PartsRel r0 ys2 v8 v9) (fun _ v9 => ys2.length - (intOf v9).toNat)
  case atStart => exact ⟨0, by omega, rfl, by rw [List.take_zero, Cr.reg_nil, X1.out]⟩
  case round =>
    obtain ⟨k, hk, rfl, rfl⟩ := hrel
    have hr := RL.out k
    have hcap := T2.out.2.1
    have hmax := T2.out.2.2.1
    by_cases hlt : k < ys2.length
    · obtain ⟨b, off, rfl, _, hcell⟩ := T2.out.2.2.2.2 (by omega)
      have hck := hcell k hlt
      have h255 := T2.out.2.2.2.1 k
      unfold bv at hck
      clear hcell
      have hs := reg_take_succ r0 ys2 k hlt
      have S := Lib.hid hs; clear hs
      go_wp2_with fail
      refine (C1.out _ _ _ hr h255).mono ?_
      rintro e w' ⟨rfl, rfl⟩
      go_wp2
      go_round
      case rel => exact ⟨k + 1, by omega, by go_num, by rw [S.out]⟩
      case measure => simp [intOf]; omega
    · obtain rfl : k = ys2.length := by omega
      rw [List.take_length] at hr ⊢
      have X2 := not_word hr
      have h2 := H2.out
      generalize Cr.reg r0 ys2 = q at *
      have HH := Lib.hid h2
      have hz1 := B1.out.size
      clear h2
      have O0 := Lib.hid (World.ownsRow_made (base := w.heap.size) (e := 5) (size := 1) w1 #[] 0 hz1 (Nat.zero_le _) rfl)
      have U1 := Lib.hid (T1.out.below ((Below.refl w1.heap.size w1).alloc (Nat.le_refl _) (.cells #[] 5)))
      have q0 : (0 : Int) ≤ q := by omega
      have q1 : (q : Int) ≤ 4294967295 := by omega
      go_wp2_with (at_builtin; refine wpList_append_slc_if (by rfl) _ _ rfl w.heap.size (.slice (some ⟨w1.heap.size, 0, none⟩) 0 0) 0 [] rfl O0.out A1 m1 cap1 ys1 rfl U1.out (by omega) (by simp; omega) ?_)
      intro v3 w3 hown3 hg3
      have B3 := Lib.hid ((B1.out.alloc hz1 (.cells #[] 5)).grown hg3 (by simp; omega) (fun k hk => by simp [Value.ownBlock] at hk; omega))
      have O3 := Lib.hid (show w3.ownsRow w.heap.size 5 1 v3 m1 (ys1.map bv) by simpa using hown3)
      have hz3 := B3.out.size
      clear hown3 hg3
      have U2 := Lib.hid (S2.out.below B3.out)
      go_wp2_with (at_builtin; refine wpList_append_slc_if (by rfl) _ _ rfl w.heap.size v3 m1 ys1 rfl O3.out A2 ys2.length cap2 ys2 rfl U2.out (by omega) hz3 ?_)
      intro v4 w4 hown4 hg4
      have B4 := Lib.hid (B3.out.grown hg4 hz3 (fun k hk => (O3.out.lt k hk).1))
      rw [← List.map_append] at hown4
      obtain ⟨A4, c4, rfl, s4⟩ := slc_of_own2 hown4 (fun x hx => by
        rcases List.mem_append.1 hx with h | h
        · exact Y1.out x h
        · exact Y2.out x h)
      have S4 := Lib.hid s4
      clear hown4 hg4 s4
      go_wp2_with fail
      refine (CM.out _ _ _ _ _ S4.out).mono ?_
      rintro e w' ⟨rfl, rfl⟩
      rw [HH.out]
      go_wp2
      go_ret
      exact ⟨rfl, B4.out⟩
end Go.Proofs.Ytlhcidpegglnfaa
