/-
  A clock, a mark, two numbers that are handed in by value, opened.
-/
import Derived.Test.YtieldmgfhdhcdaaClk
import Derived.Test.YtieldmgfhdhcdaaArr
import Derived.Lib.SmallJoins
namespace Go.Proofs.Ytieldmgfhdhcdaa
open Go.RowKit Go.ChangeShapes Go.WideShapes
section
variable {H : Type} {enc : TypeId × Value → H} {w : World} {base : Nat} {spare : Nat → Bool} {held : Bool} {r : Reach} {b0 : Nat} {v : Value} {d : DataW H} {p : List MemPlace}

theorem i64_wf {z : Int} (h : (Lit.int .i64 z).wf = true) : Ck.In z := by
  simp [Lit.wf, IntKind.min, IntKind.max, IntKind.bits, IntKind.signed] at h
  unfold Ck.In; omega
theorem u8_nat {a : Int} (h : (Lit.int .u8 a).wf = true) : ∃ n : Nat, a = n ∧ n < 256 := by
  simp [Lit.wf, IntKind.min, IntKind.max, IntKind.bits, IntKind.signed] at h
  exact ⟨a.toNat, by omega, by omega⟩
theorem open_ck (hv : Value.okWide Try.prog w r b0 23 v) (h : DataW.Trod enc Try.prog w base spare held 23 v d p) : ∃ c : Ck, v = c.val ∧ c.Wf := by
  obtain ⟨zs, hl, rfl, _, _, hw⟩ := open_int_arr Try.underlying23 Try.underlying3 (by kernel_rfl) (by kernel_rfl) hv h
  rcases zs with _ | ⟨c0, _ | ⟨c1, _ | ⟨c2, _ | ⟨c3, _ | ⟨c4, _ | ⟨c5, zs⟩⟩⟩⟩⟩⟩
  all_goals simp at hl
  exact ⟨⟨c0, c1, c2, c3, c4⟩, rfl, i64_wf (hw c0 (by simp)), i64_wf (hw c1 (by simp)), i64_wf (hw c2 (by simp)), i64_wf (hw c3 (by simp)), i64_wf (hw c4 (by simp))⟩
end
end Go.Proofs.Ytieldmgfhdhcdaa
