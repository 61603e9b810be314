/-
  The walks of both Edits.
-/
import Derived.Test.YtolpfchnfhdhkaaEdt
namespace Go.Proofs.Ytolpfchnfhdhkaa
open Go.RowKit
set_option maxRecDepth 100000
theorem Blk.ed {w : World} {b : Nat} {s : Ed} {t : TypeId} (h : Blk w b s.cells t) : w.cell? ⟨b, 0, none⟩ = some (.int .i64 s.k) ∧ w.cell? ⟨b, 1, none⟩ = some (.string s.key) ∧ w.cell? ⟨b, 2, none⟩ = some (.int .i64 s.l) ∧ w.cell? ⟨b, 3, none⟩ = some (.string s.v) := ⟨h.cell rfl, h.cell rfl, h.cell rfl, h.cell rfl⟩

set_option maxHeartbeats 1600000 in
theorem edit_any (x : Ed) (w : World) : Calls Try.prog 81 #[x.val] w fun e w' => e = .returned (.int .i64 (Tx.edit x)) ∧ Below w.heap.size w w' := by
  have H := Lib.hid (show Tx.edit x = if x.k < 1 ∨ 5 < x.k then 1 else if Tx.key x.key ≠ 0 then Tx.key x.key else if x.k = 1 ∨ x.k = 2 then Tx.bareOf x else Tx.fullOf x from rfl)
  have C1 := Lib.hid (fun w => key_any x.key w)
  have C2 := Lib.hid (fun w => without_any x w)
  have C3 := Lib.hid (fun w => with_any x w)
  have O := Tx.key_or x.key
  obtain ⟨k, y, l, v⟩ := x
  have U0 := Lib.hid (show Lex.Up w (w.alloc (.cells (Ed.cells ⟨k, y, l, v⟩) 54)) from (Below.refl _ _).alloc (Nat.le_refl _) _)
  have B0 := Lib.hid (Blk.new w (Ed.cells ⟨k, y, l, v⟩) 54)
  generalize hE : Tx.edit ⟨k, y, l, v⟩ = E at *; clear hE
  simp only [Ed.val] at *
  generalize Tx.key y = r at *
  generalize Tx.bareOf _ = q at *
  generalize Tx.fullOf _ = p at *
  by_cases hk : k < 1 ∨ 5 < k
  · rw [if_pos hk] at H
    by_cases h1 : k < 1
    · go_enter Try.func81, Try.ntmps81
      go_wp2
      go_ret
      exact ⟨by rw [H.out]; rfl, U0.out⟩
    · go_enter Try.func81, Try.ntmps81
      go_wp2
      go_ret
      exact ⟨by rw [H.out]; rfl, U0.out⟩
  rw [if_neg hk] at H
  have hk1 : ¬ k < 1 := by omega
  have hk5 : ¬ 5 < k := by omega
  clear hk
  go_enter Try.func81, Try.ntmps81
  go_wp2_with fail
  refine (C1.out _).mono ?_
  rintro e w1 ⟨rfl, hb1⟩
  have U1 := Lib.hid (U0.out.trans hb1); have B1 := Lib.hid (B0.out.up hb1); clear U0 B0 hb1
  obtain ⟨c0, c1, c2, c3⟩ := B1.out.ed
  rcases O with rfl | rfl
  rotate_left
  · rw [if_pos (by simp)] at H
    go_wp2
    go_ret
    exact ⟨by rw [H.out]; rfl, U1.out⟩
  rw [if_neg (by simp)] at H
  by_cases h1 : k = 1
  · rw [if_pos (.inl h1)] at H
    subst h1
    go_wp2_with fail
    refine (C2.out _).mono ?_
    rintro e w2 ⟨rfl, hb2⟩
    have U2 := Lib.hid (U1.out.trans hb2)
    go_wp2
    go_ret
    exact ⟨by rw [H.out]; rfl, U2.out⟩
  have d1 : (k == 1) = false := by simpa using h1
  by_cases h2 : k = 2
  · rw [if_pos (.inr h2)] at H
    subst h2
    go_wp2_with fail
    refine (C2.out _).mono ?_
    rintro e w2 ⟨rfl, hb2⟩
    have U2 := Lib.hid (U1.out.trans hb2)
    go_wp2
    go_ret
    exact ⟨by rw [H.out]; rfl, U2.out⟩
  · rw [if_neg (by omega)] at H
    have d2 : (k == 2) = false := by simpa using h2
    go_wp2_with fail
    refine (C3.out _).mono ?_
    rintro e w2 ⟨rfl, hb2⟩
    have U2 := Lib.hid (U1.out.trans hb2)
    go_wp2
    go_ret
    exact ⟨by rw [H.out]; rfl, U2.out⟩

end Go.Proofs.Ytolpfchnfhdhkaa
