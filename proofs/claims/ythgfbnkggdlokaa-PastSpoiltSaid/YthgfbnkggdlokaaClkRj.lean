/-
  The walks of the reference of clock: Join, LessEq, Has.
-/
import Derived.Test.YthgfbnkggdlokaaClkP
namespace Go.Proofs.Ythgfbnkggdlokaa
open Go.RowKit
set_option maxRecDepth 100000

theorem rhas_cell (a : Ck) (w : World) (k : Nat) (h : k < 5) : (w.alloc (.cells #[.int .i64 a.c0, .int .i64 a.c1, .int .i64 a.c2, .int .i64 a.c3, .int .i64 a.c4] 23)).cell? ⟨w.heap.size, k, none⟩ = some (.int .i64 (a.get k)) := Ck.cell_alloc w a _ k h
set_option maxHeartbeats 400000 in
theorem rjoin_any (a b : Ck) (w : World) : Calls Try.prog 66 #[a.val, b.val] w fun e w' => e = .returned (Ck.join a b).val ∧ Below w.heap.size w w' := by
  unfold Ck.val
  go_enter Try.func66, Try.ntmps66
  go_wp2
  go_loopw [6] (fun v wr => JoinRel a b w v wr) (fun v _ => 5 - (intOf v).toNat)
  case atStart => exact ⟨0, 0, by omega, rfl, rfl⟩
  case round =>
    obtain ⟨k, n, hk, rfl, rfl⟩ := hrel
    by_cases h5 : k < 5
    · have ha := joinW_a a b w k n k h5
      have hb := joinW_b a b w k n k h5
      have hc := joinW_c a b w k n k h5
      have hf := joinW_f a b w k n k
      have HS := Lib.hid (joinW_set a b w k n h5)
      have h5' : (k : Int) < 5 := by omega
      go_wp2
      refine wp_named (fun W hW => ?_)
      have hA : W.cell? ⟨w.heap.size, k, none⟩ = some (.int .i64 (a.get k)) := by rw [hW]; exact ha
      have hB : W.cell? ⟨w.heap.size + 1, k, none⟩ = some (.int .i64 (b.get k)) := by rw [hW]; exact hb
      have hC : W.cell? ⟨w.heap.size + 1 + 1 + 1, k, none⟩ = some (.int .i64 (((Ck.join a b).upto k).get k)) := by rw [hW]; exact hc
      have hF : W.frozen? ⟨w.heap.size + 1 + 1 + 1, k, none⟩ = false := by rw [hW]; exact hf
      have HW := Lib.hid (show W = (joinW a b w k).drewN n from hW)
      clear ha hb hc hf hW
      refine wp_region_still_tail 9 (by kernel_rfl) (by kernel_rfl) ?_
      simp only [List.take_succ_cons, List.take_zero, List.drop_succ_cons, List.drop_zero]
      change wpStill _ _ W.drew _ _ _
      repeat still_step
      refine wpStill_nil ?_
      change wpList _ _ _ _ _ W.drew
      go_wp2
      go_roundw
      case rel => exact ⟨k + 1, n + 1, by omega, by go_num, by rw [HW.out, HS.out]; rfl⟩
      case measure => simp [intOf]; omega
    · obtain rfl : k = 5 := by omega
      simp only [joinW, Ck.cells, Ck.upto, Ck.zero, Ck.join]
      go_wp2
      exact bodyPost_ret (v := (Ck.join a b).val) (by simp [results, Try.results66, go_sem, Ck.val, Ck.join]) rfl ⟨rfl, by
        repeat (first | exact Below.refl _ _ | refine below_dN ?_ _ | refine Below.alloc ?_ (by first | (simp; done) | (simp; omega)) _ | refine Below.setCell ?_ (by first | (simp; done) | (simp; omega)) _ | refine Below.drew ?_)⟩

set_option maxHeartbeats 400000 in
theorem rle_any (a b : Ck) (w : World) : Calls Try.prog 68 #[a.val, b.val] w fun e w' => e = .returned (.bool (Ck.le a b)) ∧ Below w.heap.size w w' := by
  unfold Ck.val
  go_enter Try.func68, Try.ntmps68
  go_wp2
  go_loopw [5] (fun v wr => LeRel a b w v wr) (fun v _ => 5 - (intOf v).toNat)
  case atStart => exact ⟨0, 0, by omega, rfl, fun _ h => absurd h (by omega), rfl⟩
  case round =>
    obtain ⟨k, n, hk, rfl, hle, rfl⟩ := hrel
    have HLE := Lib.hid hle; clear hle
    have hB := leW_below a b w
    have HB := Lib.hid hB; clear hB
    by_cases h5 : k < 5
    · have ha := leW_a a b w n k h5
      have hb := leW_b a b w n k h5
      have h5' : (k : Int) < 5 := by omega
      go_wp2
      have HS : ∀ m, ((leW a b w).drewN n).drewN m = (leW a b w).drewN (n + m) := fun m => World.drewN_drewN _ _ _
      generalize hW : (leW a b w).drewN n = W at *
      by_cases hab : a.get k ≤ b.get k
      · have hd : decide (a.get k > b.get k) = false := by simpa using hab
        have HW := Lib.hid hW; clear hW
        have HSS := Lib.hid HS; clear HS
        go_quiet (fail)
        go_wp2
        go_roundw
        case rel => exact ⟨k + 1, n + nq, by omega, by go_num, fun j hj => by
          by_cases e : j = k
          · subst e; exact hab
          · exact HLE.out j (by omega), HSS.out nq⟩
        case measure => simp [intOf]; omega
      · have hd : decide (a.get k > b.get k) = true := by simpa using hab
        have HE := Lib.hid (Ck.le_false h5 hab)
        have HW := Lib.hid hW; clear hW
        have HSS := Lib.hid HS; clear HS
        go_quiet (fail)
        go_wp2
        go_ret
        exact ⟨by rw [HE.out]; rfl, by rw [HSS.out nq]; exact HB.out _⟩
    · obtain rfl : k = 5 := by omega
      have E := Lib.hid ((Ck.le_iff a b).2 HLE.out)
      go_wp2
      go_ret
      exact ⟨by rw [E.out]; rfl, HB.out _⟩

set_option maxHeartbeats 400000 in
theorem rhas_any (a : Ck) (r n : Int) (w : World) : Calls Try.prog 62 #[a.val, .int .i64 r, .int .i64 n] w fun e w' => e = .returned (.bool (Ck.has a r n)) ∧ Below w.heap.size w w' := by
  unfold Ck.val
  by_cases h0 : 0 ≤ r
  · by_cases h5 : r < 5
    · obtain ⟨k, rfl, hk⟩ := Ck.rep_nat (r := r) (by simp [Ck.rep]; omega)
      have e : Ck.has a k n = decide (1 ≤ n ∧ n ≤ a.get k) := by unfold Ck.has Ck.rep; simp [h5]
      have E := Lib.hid e; clear e
      have hc := rhas_cell a w k hk
      have d5 : decide ((k : Int) < 5) = true := by simpa using h5
      have d0 : decide (0 ≤ (k : Int)) = true := by simp
      by_cases h1 : 1 ≤ n
      · have d1 : decide (1 ≤ n) = true := by simpa using h1
        go_enter Try.func62, Try.ntmps62
        go_wp2
        go_ret
        exact ⟨by rw [E.out]; simp [h1], (Below.refl _ _).alloc (Nat.le_refl _) _⟩
      · have d1 : decide (1 ≤ n) = false := by simpa using h1
        go_enter Try.func62, Try.ntmps62
        go_wp2
        go_ret
        exact ⟨by rw [E.out]; simp; omega, (Below.refl _ _).alloc (Nat.le_refl _) _⟩
    · have e : Ck.has a r n = false := by unfold Ck.has Ck.rep; simp [h5]
      have E := Lib.hid e; clear e
      have d5 : decide (r < 5) = false := by simpa using h5
      have d0 : decide (0 ≤ r) = true := by simpa using h0
      go_enter Try.func62, Try.ntmps62
      go_wp2
      go_ret
      exact ⟨by rw [E.out]; rfl, (Below.refl _ _).alloc (Nat.le_refl _) _⟩
  · have e : Ck.has a r n = false := by unfold Ck.has Ck.rep; simp [h0]
    have E := Lib.hid e; clear e
    have d0 : decide (0 ≤ r) = false := by simpa using h0
    go_enter Try.func62, Try.ntmps62
    go_wp2
    go_ret
    exact ⟨by rw [E.out]; rfl, (Below.refl _ _).alloc (Nat.le_refl _) _⟩

end Go.Proofs.Ythgfbnkggdlokaa
