/-
  The walk of the reference's Open.
-/
import Derived.Test.YthgfbnkggdlokaaOpen
namespace Go.Proofs.Ythgfbnkggdlokaa
open Go.RowKit
set_option maxRecDepth 100000
attribute [local go_sem ↓] Go.wp_at_zero Go.wp_at_succ

set_option maxRecDepth 100000 in
set_option maxHeartbeats 2000000 in
theorem ropen_any (A : Option Addr) (n cap : Nat) (xs : List Nat) (w : World) (h : Slc w A n cap xs) (hn : n ≤ 1000000) :
    Calls Try.prog 48 #[.slice A n cap] w (OpenPost w xs) := by
  have H := Lib.hid h
  have hl := h.1
  have hc := h.2.1
  have hm := h.2.2.1
  by_cases h4 : 4 ≤ n
  · have n1 : IntKind.i64.wrap ((n : Int) - 4) = (n : Int) - 4 := IntWalk.i64_in _ ⟨by omega, by omega⟩
    have n2 : ((n : Int) - 4).toNat = n - 4 := by omega
    have n3 : (n : Int) - 4 ≤ cap := by omega
    have n4 : (4 : Int) ≤ n := by omega
    have n5 : decide ((n : Int) - 4 < 0) = false := by simp; omega
    have HT := Lib.hid (H.out.take_ (u := n - 4) (by omega))
    have C1 := Lib.hid (fun w (h : Slc w A (n - 4) cap (xs.take (n - 4))) => rseal_any A (n - 4) cap _ w h (by omega))
    have hlt := Pl.lt_of_nth h.2.2.2.1
    have hse := Cr.sealed_lt (l := xs.take (n - 4)) (fun x hx => hlt x (List.mem_of_mem_take hx))
    have hst := str_eq hse hlt
    have ho : Cr.opens xs = decide (Cr.sealed (xs.take (n - 4)) = xs) := by
      rw [Cr.opens_seal, hl]
      simp [h4]
    rw [← ho] at hst
    have hk : xs.length - 4 = n - 4 := by rw [hl]
    have P : ∀ e w', (Below w.heap.size w w' ∧ (Cr.opens xs = true ∧ (∃ v, e = .returned (.tuple #[v, .bool true]) ∧ w'.ownsRow w.heap.size 5 1 v (n - 4) ((xs.take (n - 4)).map bv)) ∨
        Cr.opens xs = false ∧ e = .returned (.tuple #[.slice none 0 0, .bool false]))) → OpenPost w xs e w' := fun e w' h => by
      unfold OpenPost
      rw [hk]
      exact h
    refine Calls.mono ?_ P
    clear P
    have HL := Lib.hid hl
    clear ho hk hl hlt
    generalize xs.take (n - 4) = ys at *
    generalize Cr.sealed ys = zs at *
    have CV := Lib.hid (fun w' (hb : Lex.Up w w') => conv_slc (H.out.below hb))
    have SE := Lib.hid hse
    obtain ⟨r, hr⟩ : ∃ r, Cr.opens xs = r := ⟨_, rfl⟩
    rw [hr] at hst
    rw [hr]
    clear hr hse h
    go_enter Try.func48, Try.ntmps48
    go_wp2
    refine Lex.wp_region_lex (by kernel_rfl) (by kernel_rfl) (by rfl) ?_
    repeat (refine Lex.lex_pure (c := ?_) (by rfl) (by rfl) (fun w' hC => ?_) (by rfl) ?_; rotate_left 1; (go_simp; rfl); simp only [Act.put, List.setIfInBounds_toArray, List.set_cons_zero, List.set_cons_succ])
    refine Lex.lex_call (f := 44) (args := #[.slice A (n - 4) cap]) 14 (slcFact zs) (by rfl) (by rfl) (by rfl) (slcFact_up _) (fun w' => by go_simp) (fun w' hC => call_slc (C1.out w' (HT.out.below hC)) SE.out) (by rfl) ?_
    refine Lex.lex_of (c := ?_) (t := 14) (R := slcFact zs) (by rfl) (fun v => by rfl) (fun w' hC v hv => ?_) (by rfl) ?_
    rotate_left 1
    · obtain ⟨A1, c1, rfl, hs1⟩ := hv
      have hcv := conv_slc hs1
      go_simp; rfl
    simp only [Act.put, List.setIfInBounds_toArray, List.set_cons_zero, List.set_cons_succ]
    repeat (refine Lex.lex_pure (c := ?_) (by rfl) (by rfl) (fun w' hC => ?_) (by rfl) ?_; rotate_left 1; (go_simp; rfl); simp only [Act.put, List.setIfInBounds_toArray, List.set_cons_zero, List.set_cons_succ])
    refine Lex.lex_pure (c := ?_) (by rfl) (by rfl) (fun w' hC => ?_) (by rfl) ?_
    rotate_left 1
    · have cv := CV.out w' hC
      go_simp; rfl
    simp only [Act.put, List.setIfInBounds_toArray, List.set_cons_zero, List.set_cons_succ]
    repeat (refine Lex.lex_pure (c := ?_) (by rfl) (by rfl) (fun w' hC => ?_) (by rfl) ?_; rotate_left 1; (go_simp; rfl); simp only [Act.put, List.setIfInBounds_toArray, List.set_cons_zero, List.set_cons_succ])
    refine Lex.lex_nil (fun w2 hC => ?_)
    intro v1 _
    simp only [Lex.fill, Act.put, List.setIfInBounds_toArray, List.set_cons_zero, List.set_cons_succ]
    have hB := Lib.hid hC
    have hz2 := hB.out.size
    clear hC
    cases r
    · go_wp2
      go_ret2
      exact ⟨hB.out, rfl⟩
    · have O0 := Lib.hid (World.ownsRow_made (base := w.heap.size) (e := 5) (size := 1) w2 #[] 0 hz2 (Nat.zero_le _) rfl)
      have S2 := Lib.hid ((HT.out.below hB.out).below ((Below.refl w2.heap.size w2).alloc (Nat.le_refl _) (.cells #[] 5)))
      go_wp2_with (at_builtin; refine wpList_append_slc rfl _ _ rfl w.heap.size (.slice (some ⟨w2.heap.size, 0, none⟩) 0 0) 0 [] rfl O0.out A (n - 4) cap ys rfl S2.out (by omega) (by simp; omega) ?_)
      intro v3 w3 hown3 hg3
      have HB3 := Lib.hid ((hB.out.alloc hz2 (.cells #[] 5)).grown hg3 (by simp; omega) (fun k hk => by simp [Value.ownBlock] at hk; omega))
      have O3 := Lib.hid (show w3.ownsRow w.heap.size 5 1 v3 (n - 4) (ys.map bv) by simpa using hown3)
      clear hown3 hg3
      go_wp2
      go_ret2
      exact ⟨HB3.out, _, rfl, O3.out⟩
  · have ho : Cr.opens xs = false := by unfold Cr.opens; rw [hl, decide_eq_false h4]; rfl
    have n1 : IntKind.i64.wrap ((n : Int) - 4) = (n : Int) - 4 := IntWalk.i64_in _ ⟨by omega, by omega⟩
    have n5 : decide ((n : Int) - 4 < 0) = true := by simp; omega
    have n6 : (n : Int) < 4 := by omega
    go_enter Try.func48, Try.ntmps48
    go_wp2
    refine Lex.wp_region_lex (by kernel_rfl) (by kernel_rfl) (by rfl) ?_
    repeat (refine Lex.lex_pure (c := ?_) (by rfl) (by rfl) (fun w' hC => ?_) (by rfl) ?_; rotate_left 1; (go_simp; rfl); simp only [Act.put, List.setIfInBounds_toArray, List.set_cons_zero, List.set_cons_succ])
    repeat (refine Lex.lex_skip (by rfl) (by rfl) (by rfl) ?_; simp only [Act.put, List.setIfInBounds_toArray, List.set_cons_zero, List.set_cons_succ])
    repeat (refine Lex.lex_pure (c := ?_) (by rfl) (by rfl) (fun w' hC => ?_) (by rfl) ?_; rotate_left 1; (go_simp; rfl); simp only [Act.put, List.setIfInBounds_toArray, List.set_cons_zero, List.set_cons_succ])
    refine Lex.lex_nil (fun w2 hC => ?_)
    simp only [Lex.fill]
    have hB := Lib.hid hC
    clear hC
    go_wp2
    go_ret2
    exact ⟨hB.out, .inr ⟨ho, rfl⟩⟩
end Go.Proofs.Ythgfbnkggdlokaa
