/-
  The walk of event.Below.
-/
import Derived.Test.YtolpfchnfhdhkaaEvM
import Derived.Test.YtolpfchnfhdhkaaClkH
namespace Go.Proofs.Ytolpfchnfhdhkaa
open Go.RowKit
set_option maxRecDepth 100000

theorem below_any (a b : Ev) (w : World) : Calls Try.prog 117 #[a.val, b.val] w fun e w' => e = .returned (.bool (Ck.has b.c a.r a.n)) ∧ Below w.heap.size w w' := by
  have C := Lib.hid (fun w => has_any b.c a.r a.n w)
  unfold Ck.val at C
  have KA := Lib.hid ((Blk.new w a.cells 39).alloc (.cells b.cells 39))
  have KB := Lib.hid (Blk.new (w.alloc (.cells a.cells 39)) b.cells 39)
  have U0 := Lib.hid (show Below w.heap.size w ((w.alloc (.cells a.cells 39)).alloc (.cells b.cells 39)) from ((Below.refl w.heap.size w).alloc (Nat.le_refl _) _).alloc (by simp) _)
  obtain ⟨W, hW⟩ : ∃ W, W = (w.alloc (.cells a.cells 39)).alloc (.cells b.cells 39) := ⟨_, rfl⟩
  rw [← hW] at KA KB U0
  simp only [World.size_alloc] at KB
  obtain ⟨a0, a1⟩ := KA.out.rn
  obtain ⟨b0, b1, b2, b3, b4⟩ := KB.out.ctx
  generalize Ck.has b.c a.r a.n = z at *
  unfold Ev.cells at hW
  unfold Ev.val
  go_enter Try.func117, Try.ntmps117
  go_upto_region 1 with (fail)
  refine wp_named (fun W2 hW2 => ?_)
  obtain rfl : W2 = W := by rw [hW2, hW]
  clear hW hW2
  go_wp2_with fail
  refine (C.out _).mono ?_
  rintro e w1 ⟨rfl, hb⟩
  go_wp2
  go_ret
  exact ⟨rfl, U0.out.trans (hb.mono U0.out.size)⟩
end Go.Proofs.Ytolpfchnfhdhkaa
