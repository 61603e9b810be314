/-
  The walks of clock.isReplica and clock.Has.
-/
import Derived.Test.YtolpfchnfhdhkaaClk
import Derived.StillTailTactics
namespace Go.Proofs.Ytolpfchnfhdhkaa
open Go.RowKit
set_option maxRecDepth 100000

theorem isRep_any (r : Int) (w : World) : Calls Try.prog 85 #[.int .i64 r] w fun e w' => e = .returned (.bool (Ck.rep r)) ∧ w = w' := by
  by_cases h0 : 0 ≤ r
  · by_cases h5 : r < 5
    · have e : Ck.rep r = true := by simp [Ck.rep]; omega
      rw [e]
      have E := Lib.hid e; clear e
      have d : decide (r < 5) = true := by simpa using h5
      go_enter Try.func85, Try.ntmps85
      go_wp2
      go_ret
      exact ⟨rfl, rfl⟩
    · have e : Ck.rep r = false := by simp [Ck.rep]; omega
      rw [e]
      have E := Lib.hid e; clear e
      have d : decide (r < 5) = false := by simpa using h5
      go_enter Try.func85, Try.ntmps85
      go_wp2
      go_ret
      exact ⟨rfl, rfl⟩
  · have e : Ck.rep r = false := by simp [Ck.rep]; omega
    rw [e]
    have E := Lib.hid e; clear e
    have d : decide (0 ≤ r) = false := by simpa using h0
    go_enter Try.func85, Try.ntmps85
    go_wp2
    go_ret
    exact ⟨rfl, rfl⟩


theorem has_cell (a : Ck) (w : World) (k : Nat) (h : k < 5) : (w.alloc (.cells #[.int .i64 a.c0, .int .i64 a.c1, .int .i64 a.c2, .int .i64 a.c3, .int .i64 a.c4] 24)).cell? ⟨w.heap.size, k, none⟩ = some (.int .i64 (a.get k)) := Ck.cell_alloc w a _ k h

set_option maxHeartbeats 400000 in
theorem has_any (a : Ck) (r n : Int) (w : World) : Calls Try.prog 54 #[a.val, .int .i64 r, .int .i64 n] w fun e w' => e = .returned (.bool (Ck.has a r n)) ∧ Below w.heap.size w w' := by
  have C1 := Lib.hid (fun w => isRep_any r w)
  unfold Ck.val
  by_cases hr : Ck.rep r = true
  · obtain ⟨k, rfl, hk⟩ := Ck.rep_nat hr
    have e : Ck.has a k n = decide (1 ≤ n ∧ n ≤ a.get k) := by unfold Ck.has; rw [hr]; simp
    have E := Lib.hid e; clear e
    have R := Lib.hid hr; clear hr
    rw [R.out] at C1
    have hc := has_cell a w k hk
    have hk' : (k : Int) < 5 := by omega
    by_cases h1 : 1 ≤ n
    · have d1 : decide (1 ≤ n) = true := by simpa using h1
      go_enter Try.func54, Try.ntmps54
      go_wp2_with fail
      refine (C1.out _).mono ?_
      rintro e w' ⟨rfl, rfl⟩
      go_wp2
      go_ret
      exact ⟨by rw [E.out]; simp [h1], (Below.refl _ _).alloc (Nat.le_refl _) _⟩
    · have d1 : decide (1 ≤ n) = false := by simpa using h1
      go_enter Try.func54, Try.ntmps54
      go_wp2_with fail
      refine (C1.out _).mono ?_
      rintro e w' ⟨rfl, rfl⟩
      go_wp2
      go_ret
      exact ⟨by rw [E.out]; simp; omega, (Below.refl _ _).alloc (Nat.le_refl _) _⟩
  · have e : Ck.has a r n = false := by unfold Ck.has; simp [hr]
    have E := Lib.hid e; clear e
    have hr' : Ck.rep r = false := by simpa using hr
    rw [hr'] at C1
    clear hr' hr
    go_enter Try.func54, Try.ntmps54
    go_wp2_with fail
    refine (C1.out _).mono ?_
    rintro e w' ⟨rfl, rfl⟩
    go_wp2
    go_ret
    exact ⟨by rw [E.out]; rfl, (Below.refl _ _).alloc (Nat.le_refl _) _⟩

end Go.Proofs.Ytolpfchnfhdhkaa
