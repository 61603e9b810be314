/-
  Two clocks in blocks, plain: what the loops of Join and LessEq make of the world.
-/
import Derived.Test.YthgfbnkggdlokaaClk
import Derived.Test.YthgfbnkggdlokaaLex
import Derived.Lib.MinMax
import Derived.StillTailTactics
import Derived.Laws.StructEq
namespace Go.Proofs.Ythgfbnkggdlokaa
open Go.RowKit
set_option maxRecDepth 100000

/-- The first k of a, and of b, joined; 0 behind. -/
def Ck.upto (c : Ck) (k : Nat) : Ck := ⟨if 0 < k then c.c0 else 0, if 1 < k then c.c1 else 0, if 2 < k then c.c2 else 0, if 3 < k then c.c3 else 0, if 4 < k then c.c4 else 0⟩
def joinW (a b : Ck) (w : World) (k : Nat) : World := (((w.alloc (.cells a.cells 23)).alloc (.cells b.cells 23)).alloc (.cells Ck.zero.cells 23)).alloc (.cells ((Ck.join a b).upto k).cells 23)
theorem joinW_a (a b : Ck) (w : World) (k n j : Nat) (hj : j < 5) : ((joinW a b w k).drewN n).cell? ⟨w.heap.size, j, none⟩ = some (.int .i64 (a.get j)) := by
  unfold joinW Ck.cells
  match j, hj with
  | 0, _ | 1, _ | 2, _ | 3, _ | 4, _ => simp [go_sem, Ck.get]
theorem joinW_b (a b : Ck) (w : World) (k n j : Nat) (hj : j < 5) : ((joinW a b w k).drewN n).cell? ⟨w.heap.size + 1, j, none⟩ = some (.int .i64 (b.get j)) := by
  unfold joinW Ck.cells
  match j, hj with
  | 0, _ | 1, _ | 2, _ | 3, _ | 4, _ => simp [go_sem, Ck.get]
theorem joinW_set (a b : Ck) (w : World) (k n : Nat) (hk : k < 5) : ((joinW a b w k).drewN n).setCell ⟨w.heap.size + 1 + 1 + 1, k, none⟩ (.int .i64 (max (a.get k) (b.get k))) = (joinW a b w (k + 1)).drewN n := by
  rw [setCell_drewN]
  congr 1
  unfold joinW Ck.cells
  match k, hk with
  | 0, _ | 1, _ | 2, _ | 3, _ | 4, _ => simp [go_sem, Ck.get, Ck.upto, Ck.join]
theorem joinW_c (a b : Ck) (w : World) (k n j : Nat) (hj : j < 5) : ((joinW a b w k).drewN n).cell? ⟨w.heap.size + 1 + 1 + 1, j, none⟩ = some (.int .i64 (((Ck.join a b).upto k).get j)) := by
  unfold joinW Ck.cells
  match j, hj with
  | 0, _ | 1, _ | 2, _ | 3, _ | 4, _ => simp [go_sem, Ck.get]
theorem joinW_f (a b : Ck) (w : World) (k n j : Nat) : ((joinW a b w k).drewN n).frozen? ⟨w.heap.size + 1 + 1 + 1, j, none⟩ = false := by
  unfold joinW Ck.cells
  simp [go_sem]
def JoinRel (a b : Ck) (w : World) (v : Value) (w' : World) : Prop := ∃ k n : Nat, k ≤ 5 ∧ v = .int .i64 k ∧ w' = (joinW a b w k).drewN n

def leW (a b : Ck) (w : World) : World := (w.alloc (.cells a.cells 23)).alloc (.cells b.cells 23)
theorem leW_a (a b : Ck) (w : World) (n j : Nat) (hj : j < 5) : ((leW a b w).drewN n).cell? ⟨w.heap.size, j, none⟩ = some (.int .i64 (a.get j)) := by
  unfold leW Ck.cells
  match j, hj with
  | 0, _ | 1, _ | 2, _ | 3, _ | 4, _ => simp [go_sem, Ck.get]
theorem leW_b (a b : Ck) (w : World) (n j : Nat) (hj : j < 5) : ((leW a b w).drewN n).cell? ⟨w.heap.size + 1, j, none⟩ = some (.int .i64 (b.get j)) := by
  unfold leW Ck.cells
  match j, hj with
  | 0, _ | 1, _ | 2, _ | 3, _ | 4, _ => simp [go_sem, Ck.get]
theorem leW_below (a b : Ck) (w : World) (n : Nat) : Below w.heap.size w ((leW a b w).drewN n) := below_dN (((Below.refl _ _).alloc (Nat.le_refl _) _).alloc (by simp) _) n
def LeRel (a b : Ck) (w : World) (v : Value) (w' : World) : Prop := ∃ k n : Nat, k ≤ 5 ∧ v = .int .i64 k ∧ (∀ j, j < k → a.get j ≤ b.get j) ∧ w' = (leW a b w).drewN n

end Go.Proofs.Ythgfbnkggdlokaa
