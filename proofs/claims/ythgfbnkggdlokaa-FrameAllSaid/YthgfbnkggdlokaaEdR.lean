/-
  The walks of the reference of layer 5: which keys, labels, values, edits may be.
-/
import Derived.Test.YthgfbnkggdlokaaEdW
namespace Go.Proofs.Ythgfbnkggdlokaa
open Go.RowKit
set_option maxRecDepth 100000

set_option maxHeartbeats 400000 in
theorem rkey_any (s : ByteArray) (w : World) : Calls Try.prog 111 #[.string s] w fun e w' => e = .returned (.int .i64 (Tx.key s)) ∧ w' = w := by
  go_enter Try.func111, Try.ntmps111
  by_cases h1 : s.size < 1
  · have K := Lib.hid (Tx.key_len (s := s) (.inl h1))
    go_wp2
    go_ret
    exact ⟨by rw [K.out]; rfl, rfl⟩
  by_cases h8 : 8 < s.size
  · have K := Lib.hid (Tx.key_len (s := s) (.inr h8))
    go_wp2
    go_ret
    exact ⟨by rw [K.out]; rfl, rfl⟩
  go_wp2
  go_loop [3] (fun v => ∃ pos : Nat, v = .int .i64 pos ∧ pos ≤ s.size ∧ Hid (Tx.allTo s pos = true)) (fun v => s.size - (intOf v).toNat)
  case atStart => exact ⟨0, rfl, by omega, rfl⟩
  case round =>
    obtain ⟨pos, rfl, hle, HA⟩ := hrel
    by_cases hp : pos < s.size
    · have KB := Lib.hid (fun h => Tx.key_bad hp h)
      have KS := Lib.hid (show Tx.allTo s (pos + 1) = (decide (97 ≤ Tx.at_ s pos) && decide (Tx.at_ s pos ≤ 122)) by rw [Tx.allTo_succ, HA.out, Bool.true_and]; rfl)
      have hx : ∀ w : World, (Instr.index 9 (.string s) (.int .i64 pos)).run Try.prog w = .ok (.int .u8 (Tx.at_ s pos)) w := fun w => by
        rw [run_index_string w _ _ _ _ Try.underlying9, dif_pos ⟨by omega, by omega⟩, ← Tx.get_at_ s pos hp]; rfl
      have hb := Tx.at_lt s pos
      generalize Tx.at_ s pos = c at *
      by_cases hc : 97 ≤ c ∧ c ≤ 122
      · go_wp2
        go_round
        case rel => exact ⟨pos + 1, by go_num, by omega, Lib.hid (by rw [KS.out]; simp [hc])⟩
        case measure => simp [intOf]; omega
      · by_cases hc1 : c < 97
        · go_wp2
          go_ret
          exact ⟨by rw [KB.out (by omega)]; rfl, rfl⟩
        · go_wp2
          go_ret
          exact ⟨by rw [KB.out (by omega)]; rfl, rfl⟩
    · obtain rfl : pos = s.size := by omega
      have K := Lib.hid (Tx.key_good (by omega) (by omega) HA.out)
      go_wp2
      go_ret
      exact ⟨by rw [K.out]; rfl, rfl⟩
theorem rlabel_any (n : Int) (w : World) : Calls Try.prog 116 #[.int .i64 n] w fun e w' => e = .returned (.int .i64 (Tx.label n)) ∧ w' = w := by
  have H := Lib.hid (show Tx.label n = if n = 0 ∨ n = 1 then 0 else 11 from rfl)
  by_cases h0 : n = 0
  · rw [if_pos (.inl h0)] at H
    subst h0
    go_enter Try.func116, Try.ntmps116
    go_wp2
    go_ret
    exact ⟨by rw [H.out]; rfl, rfl⟩
  by_cases h1 : n = 1
  · rw [if_pos (.inr h1)] at H
    subst h1
    go_enter Try.func116, Try.ntmps116
    go_wp2
    go_ret
    exact ⟨by rw [H.out]; rfl, rfl⟩
  · rw [if_neg (by omega)] at H
    have d0 : (n == 0) = false := by simpa using h0
    have d1 : (n == 1) = false := by simpa using h1
    go_enter Try.func116, Try.ntmps116
    go_wp2
    go_ret
    exact ⟨by rw [H.out]; rfl, rfl⟩
theorem rvalue_any (s : ByteArray) (w : World) : Calls Try.prog 117 #[.string s] w fun e w' => e = .returned (.int .i64 (Tx.value s)) ∧ w' = w := by
  have H := Lib.hid (show Tx.value s = if 1 ≤ s.size ∧ s.size ≤ 12 then 0 else 12 from rfl)
  by_cases h : 1 ≤ s.size ∧ s.size ≤ 12
  · rw [if_pos h] at H
    go_enter Try.func117, Try.ntmps117
    go_wp2
    go_ret
    exact ⟨by rw [H.out]; rfl, rfl⟩
  · rw [if_neg h] at H
    go_enter Try.func117, Try.ntmps117
    by_cases h0 : s.size < 1
    · go_wp2
      go_ret
      exact ⟨by rw [H.out]; rfl, rfl⟩
    · go_wp2
      go_ret
      exact ⟨by rw [H.out]; rfl, rfl⟩


set_option maxHeartbeats 1600000 in
theorem redit_any (x : Ed) (w : World) : Calls Try.prog 92 #[x.val] w fun e w' => e = .returned (.int .i64 (Tx.edit x)) ∧ Below w.heap.size w w' := by
  have H := Lib.hid (show Tx.edit x = if x.k < 1 ∨ 5 < x.k then 1 else if Tx.key x.key ≠ 0 then Tx.key x.key else if x.k = 1 ∨ x.k = 2 then (if x.l ≠ 0 then 11 else if x.v.size ≠ 0 then 12 else 0) else if Tx.label x.l ≠ 0 then Tx.label x.l else Tx.value x.v from rfl)
  have C1 := Lib.hid (fun w => rkey_any x.key w)
  have C2 := Lib.hid (fun w => rlabel_any x.l w)
  have C3 := Lib.hid (fun w => rvalue_any x.v w)
  have O := Tx.key_or x.key
  have OL := Tx.label_or x.l
  have he := Tx.empty_iff x.v
  have U0 := Lib.hid (show Lex.Up w (w.alloc (.cells x.cells 96)) from (Below.refl _ _).alloc (Nat.le_refl _) _)
  unfold Ed.val at *
  generalize Tx.key x.key = r at *
  generalize Tx.label x.l = q at *
  generalize Tx.value x.v = p at *
  by_cases hk : x.k < 1 ∨ 5 < x.k
  · rw [if_pos hk] at H
    by_cases h1 : x.k < 1
    · go_enter Try.func92, Try.ntmps92
      go_wp2
      go_ret
      exact ⟨by rw [H.out]; rfl, U0.out⟩
    · go_enter Try.func92, Try.ntmps92
      go_wp2
      go_ret
      exact ⟨by rw [H.out]; rfl, U0.out⟩
  rw [if_neg hk] at H
  have hk1 : ¬ x.k < 1 := by omega
  have hk5 : ¬ 5 < x.k := by omega
  clear hk
  go_enter Try.func92, Try.ntmps92
  go_wp2_with fail
  refine (C1.out _).mono ?_
  rintro e w1 ⟨rfl, rfl⟩
  rcases O with rfl | rfl
  rotate_left
  · rw [if_pos (by simp)] at H
    go_wp2
    go_ret
    exact ⟨by rw [H.out]; rfl, U0.out⟩
  rw [if_neg (by simp)] at H
  by_cases h12 : x.k = 1 ∨ x.k = 2
  · rw [if_pos h12] at H
    have d1 : (x.k == 1 || x.k == 2) = true := by simpa using h12
    have d2 : (x.k == 1) = false → (x.k == 2) = true := fun h => by simpa [h] using d1
    by_cases hl : x.l = 0
    · rw [if_neg (by simpa using hl)] at H
      have e0 : (x.l == 0) = true := by simpa using hl
      by_cases hv : x.v.size = 0
      · rw [if_neg (by simpa using hv)] at H
        rw [decide_eq_true hv] at he
        cases h1 : (x.k == 1) <;> (try have d3 := d2 h1) <;> (go_wp2; go_ret; exact ⟨by rw [H.out]; rfl, (Below.refl _ _).alloc (Nat.le_refl _) _⟩)
      · rw [if_pos (by simpa using hv)] at H
        rw [decide_eq_false hv] at he
        cases h1 : (x.k == 1) <;> (try have d3 := d2 h1) <;> (go_wp2; go_ret; exact ⟨by rw [H.out]; rfl, (Below.refl _ _).alloc (Nat.le_refl _) _⟩)
    · rw [if_pos (by simpa using hl)] at H
      have e0 : (x.l == 0) = false := by simpa using hl
      cases h1 : (x.k == 1) <;> (try have d3 := d2 h1) <;> (go_wp2; go_ret; exact ⟨by rw [H.out]; rfl, (Below.refl _ _).alloc (Nat.le_refl _) _⟩)
  · rw [if_neg h12] at H
    have d1 : (x.k == 1) = false := by simp; omega
    have d2 : (x.k == 2) = false := by simp; omega
    clear h12
    go_wp2_with fail
    refine (C2.out _).mono ?_
    rintro e w2 ⟨rfl, rfl⟩
    rcases OL with rfl | rfl
    · rw [if_neg (by simp)] at H
      go_wp2_with fail
      refine (C3.out _).mono ?_
      rintro e w2 ⟨rfl, rfl⟩
      go_wp2
      go_ret
      exact ⟨by rw [H.out]; rfl, U0.out⟩
    · rw [if_pos (by simp)] at H
      go_wp2
      go_ret
      exact ⟨by rw [H.out]; rfl, U0.out⟩
end Go.Proofs.Ythgfbnkggdlokaa
