/-
  The walks of the reference of layer 4.
-/
import Derived.Test.YthalldlnkmdngaaStpW
import Derived.Lib.MinMax
namespace Go.Proofs.Ythalldlnkmdngaa
open Go.RowKit
attribute [local go_sem ↓] Go.wp_at_zero Go.wp_at_succ

set_option maxHeartbeats 400000 in
theorem rless_any (a b : Stp) (w : World) : Calls Try.prog 10 #[a.val, b.val] w fun e w' => e = .returned (.bool (Stp.less a b)) ∧ Below w.heap.size w w' := by
  unfold Stp.val
  by_cases h0 : a.h < b.h
  · have e : Stp.less a b = true := by simp [Stp.less, h0]
    rw [e]
    have E := Lib.hid e; clear e
    have d : decide (a.h < b.h) = true := by simpa using h0
    go_enter Try.func10, Try.ntmps10
    go_wp2
    go_ret
    exact ⟨rfl, ((Below.refl _ _).alloc (Nat.le_refl _) _).alloc (by simp) _⟩
  · have d : decide (a.h < b.h) = false := by simpa using h0
    by_cases h : a.h = b.h
    · have e : Stp.less a b = decide (a.r < b.r) := by simp [Stp.less, h]
      rw [e]
      have E := Lib.hid e; clear e
      have d2 : (a.h == b.h) = true := by simpa using h
      clear h0 h
      go_enter Try.func10, Try.ntmps10
      go_wp2
      go_ret
      exact ⟨rfl, ((Below.refl _ _).alloc (Nat.le_refl _) _).alloc (by simp) _⟩
    · have e : Stp.less a b = false := by simp [Stp.less, h, h0]
      rw [e]
      have E := Lib.hid e; clear e
      have d2 : (a.h == b.h) = false := by simpa using h
      clear h0 h
      go_enter Try.func10, Try.ntmps10
      go_wp2
      go_ret
      exact ⟨rfl, ((Below.refl _ _).alloc (Nat.le_refl _) _).alloc (by simp) _⟩

def RLastRel (w : World) (xs : List Stp) (v : Value) (W : World) : Prop :=
  ∃ k : Nat, k ≤ xs.length ∧ v = .int .i64 k ∧ (∀ j, j < k → Stp.nth xs j ≠ Stp.mx xs) ∧ Below w.heap.size w W
def RTopRel (w : World) (xs : List Stp) (i : Nat) (v4 v5 : Value) (W : World) : Prop :=
  ∃ k : Nat, k ≤ xs.length ∧ v5 = .int .i64 k ∧ v4 = .bool (Stp.topTo xs i k) ∧ Below w.heap.size w W

set_option maxHeartbeats 800000 in
theorem rlast_any (A : Option Addr) (cap : Nat) (xs : List Stp) (w : World) (h : Sl w 2 A xs.length cap (Stp.flat xs)) :
    Calls Try.prog 13 #[.slice A xs.length cap] w fun e w' => e = .returned (.int .i64 (Stp.last xs)) ∧ Below w.heap.size w w' := by
  have hn : xs.length ≤ 9223372036854775807 := Nat.le_trans h.2.1 h.2.2.1
  have H := Lib.hid h; clear h
  have C1 := Lib.hid (fun a b w => rless_any a b w)
  unfold Stp.val at *
  go_enter Try.func13, Try.ntmps13
  go_wp2
  go_loopw [3] (fun v W => RLastRel w xs v W) (fun v _ => xs.length - (intOf v).toNat)
  case atStart => exact ⟨0, by omega, rfl, fun j h => absurd h (by omega), Below.refl _ _⟩
  case round =>
    obtain ⟨i, hi, rfl, hne, hb⟩ := hrel
    have HN := Lib.hid hne; have HB := Lib.hid hb; clear hb hne
    by_cases hlt : i < xs.length
    · obtain ⟨b, off, rfl, hbl, hcell⟩ := H.out.2.2.2 (by omega)
      clear hcell
      go_wp2
      go_loopw [4, 5] (fun v4 v5 W => RTopRel w xs i v4 v5 W) (fun _ v _ => xs.length - (intOf v).toNat)
      case atStart => exact ⟨0, by omega, rfl, rfl, HB.out⟩
      case round =>
        clear HB
        obtain ⟨k, hk, rfl, rfl, hb⟩ := hrel
        have HB := Lib.hid hb; clear hb
        by_cases hkl : k < xs.length
        · have TS := Lib.hid (Stp.topTo_succ xs i k)
          have FI := Lib.hid (fun w' (hC : Lex.Up wr w') => stp_at H.out (HB.out.trans (hC.mono HB.out.size)) hlt)
          have FK := Lib.hid (fun w' (hC : Lex.Up wr w') => stp_at H.out (HB.out.trans (hC.mono HB.out.size)) hkl)
          generalize Stp.nth xs i = x at *
          generalize Stp.nth xs k = y at *
          have CL := Lib.hid (fun w => C1.out x y w)
          generalize Stp.topTo xs i k = t at *
          generalize Stp.less x y = l at *
          go_wp2
          refine Lex.wp_region_lex (by kernel_rfl) (by kernel_rfl) (by rfl) ?_
          repeat (first | (refine Lex.lex_skip (by rfl) (by rfl) (by rfl) ?_; simp only [Act.put, List.setIfInBounds_toArray, List.set_cons_zero, List.set_cons_succ]) | (refine Lex.lex_pure (c := ?_) (by rfl) (by rfl) (fun w' hC => ?_) (by rfl) ?_; rotate_left 1; (have ⟨e0, e1⟩ := FI.out w' hC; have ⟨d0, d1⟩ := FK.out w' hC; go_simp; rfl); simp only [Act.put, List.setIfInBounds_toArray, List.set_cons_zero, List.set_cons_succ]))
          refine Lex.lex_callv (f := 10) (args := #[.agg #[.int .i64 x.h, .int .i64 x.r], .agg #[.int .i64 y.h, .int .i64 y.r]]) (.bool l) (by rfl) (by rfl) (fun w' => by go_simp) (fun w' hC => CL.out w') (by rfl) ?_
          simp only [Act.put, List.setIfInBounds_toArray, List.set_cons_zero, List.set_cons_succ]
          repeat (first | (refine Lex.lex_skip (by rfl) (by rfl) (by rfl) ?_; simp only [Act.put, List.setIfInBounds_toArray, List.set_cons_zero, List.set_cons_succ]) | (refine Lex.lex_pure (c := ?_) (by rfl) (by rfl) (fun w' hC => ?_) (by rfl) ?_; rotate_left 1; (go_simp; rfl); simp only [Act.put, List.setIfInBounds_toArray, List.set_cons_zero, List.set_cons_succ]))
          refine Lex.lex_nil (fun w2 hC => ?_)
          simp only [Lex.fill]
          have HB2 := Lib.hid (HB.out.trans (hC.mono HB.out.size))
          clear HB FI FK CL hC
          cases t <;> cases l
          all_goals
            go_wp2
            go_roundw
            case rel => exact ⟨k + 1, hkl, by go_num, by rw [TS.out]; rfl, HB2.out⟩
            case measure => simp [intOf]; omega
        · obtain rfl : k = xs.length := by omega
          have T := Lib.hid (Stp.topTo_iff hlt)
          generalize Stp.topTo xs i xs.length = t at *
          cases t
          · go_wp2
            go_roundw
            case rel => exact ⟨i + 1, hlt, by go_num, fun j hj => by
              by_cases e : j = i
              · subst e; intro h; have := T.out.2 h; cases this
              · exact HN.out j (by omega), HB.out⟩
            case measure => simp [intOf]; omega
          · go_wp2
            go_ret
            exact ⟨by rw [Stp.last_eq hlt (T.out.1 trivial) HN.out]; rfl, HB.out⟩
    · obtain rfl : i = xs.length := by omega
      go_wp2
      go_ret
      refine ⟨?_, HB.out⟩
      by_cases h0 : 0 < xs.length
      · obtain ⟨j, hj, e⟩ := Stp.mx_is h0
        exact absurd e.symm (HN.out j hj)
      · have : xs = [] := List.eq_nil_of_length_eq_zero (by omega)
        rw [this]; rfl

set_option maxHeartbeats 400000 in
theorem few_any (A : Option Addr) (n cap : Nat) (w : World) (hc : n ≤ cap) :
    Calls Try.prog 12 #[.slice A n cap] w fun e w' => e = .returned (.slice A (min n 30) cap) ∧ w = w' := by
  have e : (min (n : Int) 30).toNat = min n 30 := by omega
  have E := Lib.hid e; clear e
  go_enter Try.func12, Try.ntmps12
  go_wp2
  go_ret
  exact ⟨by rw [← E.out]; rfl, rfl⟩
theorem few_stp {w : World} {A : Option Addr} {n cap : Nat} {xs : List Stp} (h : Sl w 2 A n cap (Stp.flat xs)) : Sl w 2 A (min n 30) cap (Stp.flat (xs.take 30)) := by
  have hl := h.1
  rw [Stp.flat_length] at hl
  have e : xs.take 30 = xs.take (min n 30) := by
    rcases Nat.le_total n 30 with h | h
    · rw [Nat.min_eq_left h, List.take_of_length_le (by omega), List.take_of_length_le (by omega)]
    · rw [Nat.min_eq_right h]
  rw [e, ← Stp.flat_take]
  exact h.take (Nat.min_le_left _ _)
end Go.Proofs.Ythalldlnkmdngaa
