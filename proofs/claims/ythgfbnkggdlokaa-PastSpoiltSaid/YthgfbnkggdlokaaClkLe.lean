/-
  The walk of clock.LessEq.
-/
import Derived.Test.YthgfbnkggdlokaaClkP
namespace Go.Proofs.Ythgfbnkggdlokaa
open Go.RowKit
set_option maxRecDepth 100000

set_option maxHeartbeats 400000 in
theorem le_any (a b : Ck) (w : World) : Calls Try.prog 59 #[a.val, b.val] w fun e w' => e = .returned (.bool (Ck.le a b)) ∧ Below w.heap.size w w' := by
  unfold Ck.val
  go_enter Try.func59, Try.ntmps59
  go_wp2
  go_loopw [6] (fun v wr => LeRel a b w v wr) (fun v _ => 5 - (intOf v).toNat)
  case atStart => exact ⟨0, 0, by omega, rfl, fun _ h => absurd h (by omega), rfl⟩
  case round =>
    obtain ⟨k, n, hk, rfl, hle, rfl⟩ := hrel
    have HLE := Lib.hid hle; clear hle
    have hB := leW_below a b w
    have HB := Lib.hid hB; clear hB
    by_cases h5 : k < 5
    · have ha := leW_a a b w n k h5
      have hb := leW_b a b w n k h5
      have h5' : (k : Int) < 5 := by omega
      go_wp2
      have HS : ∀ m, ((leW a b w).drewN n).drewN m = (leW a b w).drewN (n + m) := fun m => World.drewN_drewN _ _ _
      generalize hW : (leW a b w).drewN n = W at *
      by_cases hab : a.get k ≤ b.get k
      · have hd : decide (a.get k > b.get k) = false := by simpa using hab
        have HW := Lib.hid hW; clear hW
        have HSS := Lib.hid HS; clear HS
        go_quiet (fail)
        go_wp2
        go_roundw
        case rel => exact ⟨k + 1, n + nq, by omega, by go_num, fun j hj => by
          by_cases e : j = k
          · subst e; exact hab
          · exact HLE.out j (by omega), HSS.out nq⟩
        case measure => simp [intOf]; omega
      · have hd : decide (a.get k > b.get k) = true := by simpa using hab
        have HE := Lib.hid (Ck.le_false h5 hab)
        have HW := Lib.hid hW; clear hW
        have HSS := Lib.hid HS; clear HS
        go_quiet (fail)
        go_wp2
        go_ret
        exact ⟨by rw [HE.out]; rfl, by rw [HSS.out nq]; exact HB.out _⟩
    · obtain rfl : k = 5 := by omega
      have E := Lib.hid ((Ck.le_iff a b).2 HLE.out)
      go_wp2
      go_ret
      exact ⟨by rw [E.out]; rfl, HB.out _⟩

end Go.Proofs.Ythgfbnkggdlokaa
