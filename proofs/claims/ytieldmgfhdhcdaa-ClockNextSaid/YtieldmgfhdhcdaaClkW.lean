/-
  The walks of package clock and of its reference.
-/
import Derived.Test.YtieldmgfhdhcdaaClk
import Derived.Test.YtieldmgfhdhcdaaLex
import Derived.Lib.MinMax
import Derived.StillTailTactics
import Derived.Laws.StructEq
namespace Go.Proofs.Ytieldmgfhdhcdaa
open Go.RowKit

set_option maxHeartbeats 400000 in
theorem isRep_any (r : Int) (w : World) : Calls Try.prog 18 #[.int .i64 r] w fun e w' => e = .returned (.bool (Ck.rep r)) ∧ w = w' := by
  by_cases h0 : 0 ≤ r
  · by_cases h5 : r < 5
    · have e : Ck.rep r = true := by simp [Ck.rep]; omega
      rw [e]
      have E := Lib.hid e; clear e
      have d : decide (r < 5) = true := by simpa using h5
      go_enter Try.func18, Try.ntmps18
      go_wp2
      go_ret
      exact ⟨rfl, rfl⟩
    · have e : Ck.rep r = false := by simp [Ck.rep]; omega
      rw [e]
      have E := Lib.hid e; clear e
      have d : decide (r < 5) = false := by simpa using h5
      go_enter Try.func18, Try.ntmps18
      go_wp2
      go_ret
      exact ⟨rfl, rfl⟩
  · have e : Ck.rep r = false := by simp [Ck.rep]; omega
    rw [e]
    have E := Lib.hid e; clear e
    have d : decide (0 ≤ r) = false := by simpa using h0
    go_enter Try.func18, Try.ntmps18
    go_wp2
    go_ret
    exact ⟨rfl, rfl⟩


/-- The first k of a, and of b, joined; 0 behind. -/
def Ck.upto (c : Ck) (k : Nat) : Ck := ⟨if 0 < k then c.c0 else 0, if 1 < k then c.c1 else 0, if 2 < k then c.c2 else 0, if 3 < k then c.c3 else 0, if 4 < k then c.c4 else 0⟩
def joinW (a b : Ck) (w : World) (k : Nat) : World := (((w.alloc (.cells a.cells 23)).alloc (.cells b.cells 23)).alloc (.cells Ck.zero.cells 23)).alloc (.cells ((Ck.join a b).upto k).cells 23)
theorem joinW_a (a b : Ck) (w : World) (k n j : Nat) (hj : j < 5) : ((joinW a b w k).drewN n).cell? ⟨w.heap.size, j, none⟩ = some (.int .i64 (a.get j)) := by
  unfold joinW Ck.cells
  match j, hj with
  | 0, _ | 1, _ | 2, _ | 3, _ | 4, _ => simp [go_sem, Ck.get]
theorem joinW_b (a b : Ck) (w : World) (k n j : Nat) (hj : j < 5) : ((joinW a b w k).drewN n).cell? ⟨w.heap.size + 1, j, none⟩ = some (.int .i64 (b.get j)) := by
  unfold joinW Ck.cells
  match j, hj with
  | 0, _ | 1, _ | 2, _ | 3, _ | 4, _ => simp [go_sem, Ck.get]
theorem joinW_set (a b : Ck) (w : World) (k n : Nat) (hk : k < 5) : ((joinW a b w k).drewN n).setCell ⟨w.heap.size + 1 + 1 + 1, k, none⟩ (.int .i64 (max (a.get k) (b.get k))) = (joinW a b w (k + 1)).drewN n := by
  rw [setCell_drewN]
  congr 1
  unfold joinW Ck.cells
  match k, hk with
  | 0, _ | 1, _ | 2, _ | 3, _ | 4, _ => simp [go_sem, Ck.get, Ck.upto, Ck.join]
theorem joinW_c (a b : Ck) (w : World) (k n j : Nat) (hj : j < 5) : ((joinW a b w k).drewN n).cell? ⟨w.heap.size + 1 + 1 + 1, j, none⟩ = some (.int .i64 (((Ck.join a b).upto k).get j)) := by
  unfold joinW Ck.cells
  match j, hj with
  | 0, _ | 1, _ | 2, _ | 3, _ | 4, _ => simp [go_sem, Ck.get]
theorem joinW_f (a b : Ck) (w : World) (k n j : Nat) : ((joinW a b w k).drewN n).frozen? ⟨w.heap.size + 1 + 1 + 1, j, none⟩ = false := by
  unfold joinW Ck.cells
  simp [go_sem]
def JoinRel (a b : Ck) (w : World) (v : Value) (w' : World) : Prop := ∃ k n : Nat, k ≤ 5 ∧ v = .int .i64 k ∧ w' = (joinW a b w k).drewN n

set_option maxHeartbeats 400000 in
theorem join_any (a b : Ck) (w : World) : Calls Try.prog 14 #[a.val, b.val] w fun e w' => e = .returned (Ck.join a b).val ∧ Below w.heap.size w w' := by
  unfold Ck.val
  go_enter Try.func14, Try.ntmps14
  go_wp2
  go_loopw [7] (fun v wr => JoinRel a b w v wr) (fun v _ => 5 - (intOf v).toNat)
  case atStart => exact ⟨0, 0, by omega, rfl, rfl⟩
  case round =>
    obtain ⟨k, n, hk, rfl, rfl⟩ := hrel
    by_cases h5 : k < 5
    · have ha := joinW_a a b w k n k h5
      have hb := joinW_b a b w k n k h5
      have hc := joinW_c a b w k n k h5
      have hf := joinW_f a b w k n k
      have HS := Lib.hid (joinW_set a b w k n h5)
      have h5' : (k : Int) < 5 := by omega
      go_wp2
      refine wp_named (fun W hW => ?_)
      have hA : W.cell? ⟨w.heap.size, k, none⟩ = some (.int .i64 (a.get k)) := by rw [hW]; exact ha
      have hB : W.cell? ⟨w.heap.size + 1, k, none⟩ = some (.int .i64 (b.get k)) := by rw [hW]; exact hb
      have hC : W.cell? ⟨w.heap.size + 1 + 1 + 1, k, none⟩ = some (.int .i64 (((Ck.join a b).upto k).get k)) := by rw [hW]; exact hc
      have hF : W.frozen? ⟨w.heap.size + 1 + 1 + 1, k, none⟩ = false := by rw [hW]; exact hf
      have HW := Lib.hid (show W = (joinW a b w k).drewN n from hW)
      clear ha hb hc hf hW
      refine wp_region_still_tail 9 (by kernel_rfl) (by kernel_rfl) ?_
      simp only [List.take_succ_cons, List.take_zero, List.drop_succ_cons, List.drop_zero]
      change wpStill _ _ W.drew _ _ _
      repeat still_step
      refine wpStill_nil ?_
      change wpList _ _ _ _ _ W.drew
      go_wp2
      go_roundw
      case rel => exact ⟨k + 1, n + 1, by omega, by go_num, by rw [HW.out, HS.out]; rfl⟩
      case measure => simp [intOf]; omega
    · obtain rfl : k = 5 := by omega
      simp only [joinW, Ck.cells, Ck.upto, Ck.zero, Ck.join]
      go_wp2
      exact bodyPost_ret (v := (Ck.join a b).val) (by simp [results, Try.results14, go_sem, Ck.val, Ck.join]) rfl ⟨rfl, by
        repeat (first | exact Below.refl _ _ | refine below_dN ?_ _ | refine Below.alloc ?_ (by first | (simp; done) | (simp; omega)) _ | refine Below.setCell ?_ (by first | (simp; done) | (simp; omega)) _ | refine Below.drew ?_)⟩

def leW (a b : Ck) (w : World) : World := (w.alloc (.cells a.cells 23)).alloc (.cells b.cells 23)
theorem leW_a (a b : Ck) (w : World) (n j : Nat) (hj : j < 5) : ((leW a b w).drewN n).cell? ⟨w.heap.size, j, none⟩ = some (.int .i64 (a.get j)) := by
  unfold leW Ck.cells
  match j, hj with
  | 0, _ | 1, _ | 2, _ | 3, _ | 4, _ => simp [go_sem, Ck.get]
theorem leW_b (a b : Ck) (w : World) (n j : Nat) (hj : j < 5) : ((leW a b w).drewN n).cell? ⟨w.heap.size + 1, j, none⟩ = some (.int .i64 (b.get j)) := by
  unfold leW Ck.cells
  match j, hj with
  | 0, _ | 1, _ | 2, _ | 3, _ | 4, _ => simp [go_sem, Ck.get]
theorem leW_below (a b : Ck) (w : World) (n : Nat) : Below w.heap.size w ((leW a b w).drewN n) := below_dN (((Below.refl _ _).alloc (Nat.le_refl _) _).alloc (by simp) _) n
def LeRel (a b : Ck) (w : World) (v : Value) (w' : World) : Prop := ∃ k n : Nat, k ≤ 5 ∧ v = .int .i64 k ∧ (∀ j, j < k → a.get j ≤ b.get j) ∧ w' = (leW a b w).drewN n

set_option maxHeartbeats 400000 in
theorem le_any (a b : Ck) (w : World) : Calls Try.prog 16 #[a.val, b.val] w fun e w' => e = .returned (.bool (Ck.le a b)) ∧ Below w.heap.size w w' := by
  unfold Ck.val
  go_enter Try.func16, Try.ntmps16
  go_wp2
  go_loopw [6] (fun v wr => LeRel a b w v wr) (fun v _ => 5 - (intOf v).toNat)
  case atStart => exact ⟨0, 0, by omega, rfl, fun _ h => absurd h (by omega), rfl⟩
  case round =>
    obtain ⟨k, n, hk, rfl, hle, rfl⟩ := hrel
    have HLE := Lib.hid hle; clear hle
    have hB := leW_below a b w
    have HB := Lib.hid hB; clear hB
    by_cases h5 : k < 5
    · have ha := leW_a a b w n k h5
      have hb := leW_b a b w n k h5
      have h5' : (k : Int) < 5 := by omega
      go_wp2
      have HS : ∀ m, ((leW a b w).drewN n).drewN m = (leW a b w).drewN (n + m) := fun m => World.drewN_drewN _ _ _
      generalize hW : (leW a b w).drewN n = W at *
      by_cases hab : a.get k ≤ b.get k
      · have hd : decide (a.get k > b.get k) = false := by simpa using hab
        have HW := Lib.hid hW; clear hW
        have HSS := Lib.hid HS; clear HS
        go_quiet (fail)
        go_wp2
        go_roundw
        case rel => exact ⟨k + 1, n + nq, by omega, by go_num, fun j hj => by
          by_cases e : j = k
          · subst e; exact hab
          · exact HLE.out j (by omega), HSS.out nq⟩
        case measure => simp [intOf]; omega
      · have hd : decide (a.get k > b.get k) = true := by simpa using hab
        have HE := Lib.hid (Ck.le_false h5 hab)
        have HW := Lib.hid hW; clear hW
        have HSS := Lib.hid HS; clear HS
        go_quiet (fail)
        go_wp2
        go_ret
        exact ⟨by rw [HE.out]; rfl, by rw [HSS.out nq]; exact HB.out _⟩
    · obtain rfl : k = 5 := by omega
      have E := Lib.hid ((Ck.le_iff a b).2 HLE.out)
      go_wp2
      go_ret
      exact ⟨by rw [E.out]; rfl, HB.out _⟩

/-- The world of a call that has boxed a clock. -/
theorem has_cell (a : Ck) (w : World) (k : Nat) (h : k < 5) : (w.alloc (.cells #[.int .i64 a.c0, .int .i64 a.c1, .int .i64 a.c2, .int .i64 a.c3, .int .i64 a.c4] 23)).cell? ⟨w.heap.size, k, none⟩ = some (.int .i64 (a.get k)) := Ck.cell_alloc w a _ k h

set_option maxHeartbeats 400000 in
theorem has_any (a : Ck) (r n : Int) (w : World) : Calls Try.prog 12 #[a.val, .int .i64 r, .int .i64 n] w fun e w' => e = .returned (.bool (Ck.has a r n)) ∧ Below w.heap.size w w' := by
  have C1 := Lib.hid (fun w => isRep_any r w)
  unfold Ck.val
  by_cases hr : Ck.rep r = true
  · obtain ⟨k, rfl, hk⟩ := Ck.rep_nat hr
    have e : Ck.has a k n = decide (1 ≤ n ∧ n ≤ a.get k) := by unfold Ck.has; rw [hr]; simp
    have E := Lib.hid e; clear e
    have R := Lib.hid hr; clear hr
    rw [R.out] at C1
    have hc := has_cell a w k hk
    have hk' : (k : Int) < 5 := by omega
    by_cases h1 : 1 ≤ n
    · have d1 : decide (1 ≤ n) = true := by simpa using h1
      go_enter Try.func12, Try.ntmps12
      go_wp2_with fail
      refine (C1.out _).mono ?_
      rintro e w' ⟨rfl, rfl⟩
      go_wp2
      go_ret
      exact ⟨by rw [E.out]; simp [h1], (Below.refl _ _).alloc (Nat.le_refl _) _⟩
    · have d1 : decide (1 ≤ n) = false := by simpa using h1
      go_enter Try.func12, Try.ntmps12
      go_wp2_with fail
      refine (C1.out _).mono ?_
      rintro e w' ⟨rfl, rfl⟩
      go_wp2
      go_ret
      exact ⟨by rw [E.out]; simp; omega, (Below.refl _ _).alloc (Nat.le_refl _) _⟩
  · have e : Ck.has a r n = false := by unfold Ck.has; simp [hr]
    have E := Lib.hid e; clear e
    have hr' : Ck.rep r = false := by simpa using hr
    rw [hr'] at C1
    clear hr' hr
    go_enter Try.func12, Try.ntmps12
    go_wp2_with fail
    refine (C1.out _).mono ?_
    rintro e w' ⟨rfl, rfl⟩
    go_wp2
    go_ret
    exact ⟨by rw [E.out]; rfl, (Below.refl _ _).alloc (Nat.le_refl _) _⟩

theorem has_set (a : Ck) (w : World) (k : Nat) (x : Int) (t : TypeId) (h : k < 5) : (w.alloc (.cells a.cells t)).setCell ⟨w.heap.size, k, none⟩ (.int .i64 x) = w.alloc (.cells (a.set k x).cells t) := by
  unfold Ck.cells
  match k, h with
  | 0, _ | 1, _ | 2, _ | 3, _ | 4, _ => simp [go_sem, Ck.set]

def NextVal (a : Ck) (r : Int) (w : World) (e : Ending) (w' : World) : Prop := e = .returned (.tuple #[(Ck.next a r).val, .int .i64 (Ck.nextErr a r)]) ∧ Below w.heap.size w w'

theorem isRep_yes (r : Int) (w : World) (h : 0 ≤ r ∧ r < 5) : Calls Try.prog 18 #[.int .i64 r] w fun e w' => e = .returned (.bool true) ∧ w = w' := by
  have := isRep_any r w
  rwa [show Ck.rep r = true by simp [Ck.rep]; omega] at this
theorem isRep_no (r : Int) (w : World) (h : r < 0 ∨ 5 ≤ r) : Calls Try.prog 18 #[.int .i64 r] w fun e w' => e = .returned (.bool false) ∧ w = w' := by
  have := isRep_any r w
  rwa [show Ck.rep r = false by simp [Ck.rep]; omega] at this
theorem next_ok {a : Ck} {r : Int} (h : 0 ≤ r ∧ r < 5) (hm : a.get r.toNat < 1048576) : Ck.next a r = a.set r.toNat (a.get r.toNat + 1) ∧ Ck.nextErr a r = 0 := by
  have hr : Ck.rep r = true := by simp [Ck.rep]; omega
  unfold Ck.next Ck.nextErr
  rw [hr]; simp [hm]
theorem next_spent {a : Ck} {r : Int} (h : 0 ≤ r ∧ r < 5) (hm : ¬ a.get r.toNat < 1048576) : Ck.next a r = Ck.zero ∧ Ck.nextErr a r = 25 := by
  have hr : Ck.rep r = true := by simp [Ck.rep]; omega
  unfold Ck.next Ck.nextErr
  rw [hr]; simp [hm]
theorem next_no {a : Ck} {r : Int} (h : r < 0 ∨ 5 ≤ r) : Ck.next a r = Ck.zero ∧ Ck.nextErr a r = 1 := by
  have hr : Ck.rep r = false := by simp [Ck.rep]; omega
  unfold Ck.next Ck.nextErr
  rw [hr]; simp

set_option maxHeartbeats 1600000 in
theorem next_any (a : Ck) (r : Int) (w : World) (ha : a.Wf) : Calls Try.prog 10 #[a.val, .int .i64 r] w (NextVal a r w) := by
  by_cases hr : 0 ≤ r ∧ r < 5
  · have C1 := Lib.hid (fun w => isRep_yes r w hr)
    by_cases hm : a.get r.toNat < 1048576
    · have E := Lib.hid (next_ok hr hm)
      have hin := Ck.get_in ha r.toNat
      obtain ⟨hr0, hr5⟩ := hr
      have hw : r = 0 ∨ r = 1 ∨ r = 2 ∨ r = 3 ∨ r = 4 := by omega
      clear hr0 hr5 ha
      unfold Ck.val
      rcases hw with rfl | rfl | rfl | rfl | rfl
      all_goals
        simp [Ck.get, Ck.In] at hin hm
        obtain ⟨hi1, hi2⟩ := hin
        simp [Ck.get, Ck.set] at E
        go_enter Try.func10, Try.ntmps10
        go_wp2_with fail
        refine (C1.out _).mono ?_
        rintro e w' ⟨rfl, rfl⟩
        go_wp2
        exact bodyPost_ret (v := .tuple #[.agg #[_, _, _, _, _], .int .i64 0]) (by simp [results, Try.results10, go_sem]; exact ⟨rfl, rfl, rfl, rfl, rfl⟩) rfl ⟨by rw [E.out.1, E.out.2]; rfl, by
          repeat (first | exact Below.refl _ _ | refine Below.alloc ?_ (by first | (simp; done) | (simp; omega)) _)⟩
    · have E := Lib.hid (next_spent hr hm)
      obtain ⟨hr0, hr5⟩ := hr
      have hw : r = 0 ∨ r = 1 ∨ r = 2 ∨ r = 3 ∨ r = 4 := by omega
      clear hr0 hr5 ha
      unfold Ck.val
      rcases hw with rfl | rfl | rfl | rfl | rfl
      all_goals
        simp [Ck.get] at hm
        go_enter Try.func10, Try.ntmps10
        go_wp2_with fail
        refine (C1.out _).mono ?_
        rintro e w' ⟨rfl, rfl⟩
        go_wp2
        exact bodyPost_ret (v := .tuple #[.agg #[_, _, _, _, _], .int .i64 25]) (by simp [results, Try.results10, go_sem]; exact ⟨rfl, rfl, rfl, rfl, rfl⟩) rfl ⟨by rw [E.out.1, E.out.2]; rfl, by
          repeat (first | exact Below.refl _ _ | refine Below.alloc ?_ (by first | (simp; done) | (simp; omega)) _)⟩
  · have hr' : r < 0 ∨ 5 ≤ r := by omega
    have C1 := Lib.hid (fun w => isRep_no r w hr')
    have E := Lib.hid (next_no (a := a) hr')
    clear hr hr' ha
    unfold Ck.val
    go_enter Try.func10, Try.ntmps10
    go_wp2_with fail
    refine (C1.out _).mono ?_
    rintro e w' ⟨rfl, rfl⟩
    go_wp2
    exact bodyPost_ret (v := .tuple #[.agg #[_, _, _, _, _], .int .i64 1]) (by simp [results, Try.results10, go_sem]; exact ⟨rfl, rfl, rfl, rfl, rfl⟩) rfl ⟨by rw [E.out.1, E.out.2]; rfl, by
      repeat (first | exact Below.refl _ _ | refine Below.alloc ?_ (by first | (simp; done) | (simp; omega)) _)⟩
end Go.Proofs.Ytieldmgfhdhcdaa
