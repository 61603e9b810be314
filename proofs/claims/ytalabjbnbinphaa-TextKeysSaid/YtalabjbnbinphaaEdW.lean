/-
  The walks of both Edits.
-/
import Derived.Test.YtalabjbnbinphaaEdt
namespace Go.Proofs.Ytalabjbnbinphaa
open Go.RowKit
theorem Blk.ed {w : World} {b : Nat} {s : Ed} {t : TypeId} (h : Blk w b s.cells t) : w.cell? ⟨b, 0, none⟩ = some (.int .i64 s.k) ∧ w.cell? ⟨b, 1, none⟩ = some (.string s.key) ∧ w.cell? ⟨b, 2, none⟩ = some (.int .i64 s.l) ∧ w.cell? ⟨b, 3, none⟩ = some (.string s.v) := ⟨h.cell rfl, h.cell rfl, h.cell rfl, h.cell rfl⟩

set_option maxHeartbeats 1600000 in
theorem edit_any (x : Ed) (w : World) : Calls Try.prog 15 #[x.val] w fun e w' => e = .returned (.int .i64 (Tx.edit x)) ∧ Below w.heap.size w w' := by
  have H := Lib.hid (show Tx.edit x = if x.k < 1 ∨ 5 < x.k then 1 else if Tx.key x.key ≠ 0 then Tx.key x.key else if x.k = 1 ∨ x.k = 2 then Tx.bareOf x else Tx.fullOf x from rfl)
  have C1 := Lib.hid (fun w => key_any x.key w)
  have C2 := Lib.hid (fun w => without_any x w)
  have C3 := Lib.hid (fun w => with_any x w)
  have O := Tx.key_or x.key
  obtain ⟨k, y, l, v⟩ := x
  have U0 := Lib.hid (show Lex.Up w (w.alloc (.cells (Ed.cells ⟨k, y, l, v⟩) 23)) from (Below.refl _ _).alloc (Nat.le_refl _) _)
  have B0 := Lib.hid (Blk.new w (Ed.cells ⟨k, y, l, v⟩) 23)
  generalize hE : Tx.edit ⟨k, y, l, v⟩ = E at *; clear hE
  simp only [Ed.val] at *
  generalize Tx.key y = r at *
  generalize Tx.bareOf _ = q at *
  generalize Tx.fullOf _ = p at *
  by_cases hk : k < 1 ∨ 5 < k
  · rw [if_pos hk] at H
    by_cases h1 : k < 1
    · go_enter Try.func15, Try.ntmps15
      go_wp2
      go_ret
      exact ⟨by rw [H.out]; rfl, U0.out⟩
    · go_enter Try.func15, Try.ntmps15
      go_wp2
      go_ret
      exact ⟨by rw [H.out]; rfl, U0.out⟩
  rw [if_neg hk] at H
  have hk1 : ¬ k < 1 := by omega
  have hk5 : ¬ 5 < k := by omega
  clear hk
  go_enter Try.func15, Try.ntmps15
  go_wp2_with fail
  refine (C1.out _).mono ?_
  rintro e w1 ⟨rfl, hb1⟩
  have U1 := Lib.hid (U0.out.trans hb1); have B1 := Lib.hid (B0.out.up hb1); clear U0 B0 hb1
  obtain ⟨c0, c1, c2, c3⟩ := B1.out.ed
  rcases O with rfl | rfl
  rotate_left
  · rw [if_pos (by simp)] at H
    go_wp2
    go_ret
    exact ⟨by rw [H.out]; rfl, U1.out⟩
  rw [if_neg (by simp)] at H
  by_cases h1 : k = 1
  · rw [if_pos (.inl h1)] at H
    subst h1
    go_wp2_with fail
    refine (C2.out _).mono ?_
    rintro e w2 ⟨rfl, hb2⟩
    have U2 := Lib.hid (U1.out.trans hb2)
    go_wp2
    go_ret
    exact ⟨by rw [H.out]; rfl, U2.out⟩
  have d1 : (k == 1) = false := by simpa using h1
  by_cases h2 : k = 2
  · rw [if_pos (.inr h2)] at H
    subst h2
    go_wp2_with fail
    refine (C2.out _).mono ?_
    rintro e w2 ⟨rfl, hb2⟩
    have U2 := Lib.hid (U1.out.trans hb2)
    go_wp2
    go_ret
    exact ⟨by rw [H.out]; rfl, U2.out⟩
  · rw [if_neg (by omega)] at H
    have d2 : (k == 2) = false := by simpa using h2
    go_wp2_with fail
    refine (C3.out _).mono ?_
    rintro e w2 ⟨rfl, hb2⟩
    have U2 := Lib.hid (U1.out.trans hb2)
    go_wp2
    go_ret
    exact ⟨by rw [H.out]; rfl, U2.out⟩

set_option maxHeartbeats 1600000 in
theorem redit_any (x : Ed) (w : World) : Calls Try.prog 16 #[x.val] w fun e w' => e = .returned (.int .i64 (Tx.edit x)) ∧ Below w.heap.size w w' := by
  have H := Lib.hid (show Tx.edit x = if x.k < 1 ∨ 5 < x.k then 1 else if Tx.key x.key ≠ 0 then Tx.key x.key else if x.k = 1 ∨ x.k = 2 then (if x.l ≠ 0 then 11 else if x.v.size ≠ 0 then 12 else 0) else if Tx.label x.l ≠ 0 then Tx.label x.l else Tx.value x.v from rfl)
  have C1 := Lib.hid (fun w => rkey_any x.key w)
  have C2 := Lib.hid (fun w => rlabel_any x.l w)
  have C3 := Lib.hid (fun w => rvalue_any x.v w)
  have O := Tx.key_or x.key
  have OL := Tx.label_or x.l
  have he := Tx.empty_iff x.v
  have U0 := Lib.hid (show Lex.Up w (w.alloc (.cells x.cells 23)) from (Below.refl _ _).alloc (Nat.le_refl _) _)
  unfold Ed.val at *
  generalize Tx.key x.key = r at *
  generalize Tx.label x.l = q at *
  generalize Tx.value x.v = p at *
  by_cases hk : x.k < 1 ∨ 5 < x.k
  · rw [if_pos hk] at H
    by_cases h1 : x.k < 1
    · go_enter Try.func16, Try.ntmps16
      go_wp2
      go_ret
      exact ⟨by rw [H.out]; rfl, U0.out⟩
    · go_enter Try.func16, Try.ntmps16
      go_wp2
      go_ret
      exact ⟨by rw [H.out]; rfl, U0.out⟩
  rw [if_neg hk] at H
  have hk1 : ¬ x.k < 1 := by omega
  have hk5 : ¬ 5 < x.k := by omega
  clear hk
  go_enter Try.func16, Try.ntmps16
  go_wp2_with fail
  refine (C1.out _).mono ?_
  rintro e w1 ⟨rfl, rfl⟩
  rcases O with rfl | rfl
  rotate_left
  · rw [if_pos (by simp)] at H
    go_wp2
    go_ret
    exact ⟨by rw [H.out]; rfl, U0.out⟩
  rw [if_neg (by simp)] at H
  by_cases h12 : x.k = 1 ∨ x.k = 2
  · rw [if_pos h12] at H
    have d1 : (x.k == 1 || x.k == 2) = true := by simpa using h12
    have d2 : (x.k == 1) = false → (x.k == 2) = true := fun h => by simpa [h] using d1
    by_cases hl : x.l = 0
    · rw [if_neg (by simpa using hl)] at H
      have e0 : (x.l == 0) = true := by simpa using hl
      by_cases hv : x.v.size = 0
      · rw [if_neg (by simpa using hv)] at H
        rw [decide_eq_true hv] at he
        cases h1 : (x.k == 1) <;> (try have d3 := d2 h1) <;> (go_wp2; go_ret; exact ⟨by rw [H.out]; rfl, (Below.refl _ _).alloc (Nat.le_refl _) _⟩)
      · rw [if_pos (by simpa using hv)] at H
        rw [decide_eq_false hv] at he
        cases h1 : (x.k == 1) <;> (try have d3 := d2 h1) <;> (go_wp2; go_ret; exact ⟨by rw [H.out]; rfl, (Below.refl _ _).alloc (Nat.le_refl _) _⟩)
    · rw [if_pos (by simpa using hl)] at H
      have e0 : (x.l == 0) = false := by simpa using hl
      cases h1 : (x.k == 1) <;> (try have d3 := d2 h1) <;> (go_wp2; go_ret; exact ⟨by rw [H.out]; rfl, (Below.refl _ _).alloc (Nat.le_refl _) _⟩)
  · rw [if_neg h12] at H
    have d1 : (x.k == 1) = false := by simp; omega
    have d2 : (x.k == 2) = false := by simp; omega
    clear h12
    go_wp2_with fail
    refine (C2.out _).mono ?_
    rintro e w2 ⟨rfl, rfl⟩
    rcases OL with rfl | rfl
    · rw [if_neg (by simp)] at H
      go_wp2_with fail
      refine (C3.out _).mono ?_
      rintro e w2 ⟨rfl, rfl⟩
      go_wp2
      go_ret
      exact ⟨by rw [H.out]; rfl, U0.out⟩
    · rw [if_pos (by simp)] at H
      go_wp2
      go_ret
      exact ⟨by rw [H.out]; rfl, U0.out⟩
end Go.Proofs.Ytalabjbnbinphaa
