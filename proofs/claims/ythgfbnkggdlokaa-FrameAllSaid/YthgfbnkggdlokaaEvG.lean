/-
  The walk of the reference's edit: what an event does.
-/
import Derived.Test.YthgfbnkggdlokaaEvQ
import Derived.Test.YthgfbnkggdlokaaFit
import Derived.Deep.DeepCutAuto
namespace Go.Proofs.Ythgfbnkggdlokaa
open Go.RowKit
set_option maxRecDepth 100000

theorem edit6_any (e : Ev) (w : World) : Calls Try.prog 93 #[e.val] w fun x w' => x = .returned e.ed.val ∧ Below w.heap.size w w' := by
  have KA := Lib.hid ((Blk.new w e.cells 51).alloc (.cells noEd.cells 96))
  have KB := Lib.hid (Blk.new (w.alloc (.cells e.cells 51)) noEd.cells 96)
  have U0 := Lib.hid (show Below w.heap.size w ((w.alloc (.cells e.cells 51)).alloc (.cells noEd.cells 96)) from ((Below.refl w.heap.size w).alloc (Nat.le_refl _) _).alloc (by simp) _)
  obtain ⟨W, hW⟩ : ∃ W, W = (w.alloc (.cells e.cells 51)).alloc (.cells noEd.cells 96) := ⟨_, rfl⟩
  rw [← hW] at KA KB U0
  simp only [World.size_alloc] at KB
  obtain ⟨a0, a1, a2, a3⟩ := KA.out.kklv
  obtain ⟨e0, e1, e2, e3⟩ := KB.out.ed
  have f0 := KB.out.frozen 0; have f1 := KB.out.frozen 1; have f2 := KB.out.frozen 2; have f3 := KB.out.frozen 3
  unfold Ev.val
  go_enter Try.func93, Try.ntmps93
  go_upto_region 1 with (fail)
  refine wp_named (fun W2 hW2 => ?_)
  obtain rfl : W2 = W := by rw [hW2, hW]; rfl
  clear hW hW2
  go_wp2
  have K := KB.out.set4 (.int .i64 e.k) (.string e.key) (.int .i64 e.l) (.string e.v)
  have B := (((U0.out.setCell (p := ⟨w.heap.size + 1, 0, none⟩) (by simp) (.int .i64 e.k)).setCell (p := ⟨w.heap.size + 1, 1, none⟩) (by simp) (.string e.key)).setCell (p := ⟨w.heap.size + 1, 2, none⟩) (by simp) (.int .i64 e.l)).setCell (p := ⟨w.heap.size + 1, 3, none⟩) (by simp) (.string e.v)
  generalize World.setCell _ ⟨w.heap.size + 1, 3, none⟩ (.string e.v) = W3 at *
  have k0 := K.cell (j := 0) rfl
  have k1 := K.cell (j := 1) rfl
  have k2 := K.cell (j := 2) rfl
  have k3 := K.cell (j := 3) rfl
  exact bodyPost_ret (v := e.ed.val) (by simp [results, Try.results93, go_sem, Ed.val, Ev.ed, k0, k1, k2, k3]) rfl ⟨rfl, B⟩

end Go.Proofs.Ythgfbnkggdlokaa
