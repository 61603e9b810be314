/-
  kith/kithlaw09.BookWrites: the statement 'BookWritesSaid': for every input the call returns true, and the input reads as it did. No condition beside the row's own.
-/
import Derived.Test.YtolpfchnfhdhkaaRows
import Derived.WalkKit
import Derived.ProofKit
import Derived.OpenShut
import Derived.ShutString
import Derived.ChangeOld
import Derived.Carry
import Derived.Below
import Derived.Test.YtolpfchnfhdhkaaLaws9B
import Derived.Test.YtolpfchnfhdhkaaArr
namespace Go.Proofs.Ytolpfchnfhdhkaa.bookWrites
open Go.ChangeShapes Go.WideShapes Go.ChangeAt Go.RowKit
set_option linter.unusedVariables false
set_option maxRecDepth 100000

theorem own : ownKnob Try.prog.godebug = none := by kernel_rfl
theorem laidOut : laidOutB Try.prog = true := by kernel_rfl
noncomputable def zv (t : TypeId) : Value := ((Try.prog.info? t).bind (·.zero)).getD (.bool false)

theorem walk {H : Type} {enc : TypeId × Value → H} {base : Nat} {v0 : Value} {d0 : DataW H} {p0 : List MemPlace} (w : World) (h0 : DataW.Trod enc Try.prog w 0 (fun _ => true) true 63 v0 d0 p0) (k0 : Value.okWide Try.prog w .any base 63 v0) :
    Calls Try.prog 13 #[v0] w fun e w' => e = .returned (.bool true) ∧ Below w.heap.size w w' := by
  obtain ⟨zs, hl, rfl, _, _, w0⟩ := open_int_arr Try.underlying63 Try.underlying5 (by kernel_rfl) (by kernel_rfl) k0 h0
  rcases zs with _ | ⟨c0, _ | ⟨c1, _ | ⟨c2, _ | ⟨c3, _ | ⟨c4, _ | ⟨c5, zs⟩⟩⟩⟩⟩⟩
  all_goals simp at hl
  obtain ⟨a0, rfl, h0'⟩ := u8_nat (w0 c0 (by simp))
  obtain ⟨a1, rfl, h1'⟩ := u8_nat (w0 c1 (by simp))
  obtain ⟨a2, rfl, h2'⟩ := u8_nat (w0 c2 (by simp))
  obtain ⟨a3, rfl, h3'⟩ := u8_nat (w0 c3 (by simp))
  obtain ⟨a4, rfl, h4'⟩ := u8_nat (w0 c4 (by simp))
  exact law_writes (fun r => match r with | 0 => a0 | 1 => a1 | 2 => a2 | 3 => a3 | 4 => a4 | _ => 0) w (fun r => by
    match r with
    | 0 => exact h0'
    | 1 => exact h1'
    | 2 => exact h2'
    | 3 => exact h3'
    | 4 => exact h4'
    | _ + 5 => show 0 < 256; omega)

theorem lifted (os : Os) (started : os.Started) (H : Type) (enc : TypeId × Value → H) :
    ReturnsInHanded {} Try.checked os 13 .any (Rows.bookWritesSpec.pre6 enc Try.prog Try.f13 Rows.bookWritesRow.domain false) (Rows.bookWritesSpec.post enc Try.prog Try.f13 false true false false) := by
  refine returnsInHanded_of_change (C := Try.checked) own started (by kernel_rfl) Try.func13
    (ChangeSpec.witness6 (enc := enc) (C := Try.checked) false ⟨#[], #[zv 63], []⟩ 8 (by kernel_rfl) (by kernel_rfl) (by kernel_rfl) (by kernel_rfl)) ?_
  intro W base args ds gs before hval0 hW hcnd _
  have hval : ∀ (j : Nat) t v, Try.f13.params[j]? = some t → args[j]? = some v → Value.okWide Try.prog W .any base t v := hval0
  have hW' := hW
  obtain ⟨p, q, hA0, hV, rfl, hfz, hnd⟩ := hW
  have hA : DataW.TrodAll enc Try.prog W 0 (fun _ => true) true Try.f13.params.toList args.toList ds p := hA0
  rw [Try.params13] at hA hval
  obtain ⟨v0, vs0, d0, ds0, p0, q0, hargs, rfl, rfl, h0, r0⟩ := trodAll_cons hA
  obtain ⟨rfl, rfl, rfl⟩ := trodAll_nil r0
  obtain rfl : args = #[v0] := by cases args; simp_all
  obtain ⟨rfl, rfl⟩ := trodVars_none hV
  have lt0 : ∀ x ∈ p0, x.block < W.heap.size := by obtain ⟨m, hm⟩ := h0; exact DataW.trod_lt m _ _ _ hm
  have k0 := hval 0 63 v0 rfl rfl
  clear hA0 hval0
  refine (walk W h0 k0).mono fun e W' ⟨he, bel⟩ => ?_
  subst he
  exact ⟨_, rfl, _, _, _, [], _, [], hW', trodAll_mk1 (shut_bool Try.underlying4 _), (trodAll_cons_mk (Below.trod laidOut (by kernel_rfl) (of_decide_eq_true (by kernel_rfl)) h0 bel lt0) trodAll_mk0), rfl, bel.frame _, fun h => by cases h⟩

theorem over : Rows.bookWritesRow.holds Try.pinned (OpenSpec.ofChange Rows.bookWritesSpec) :=
  OpenClaim.holds_of_wide 13 Try.f13 rfl rfl rfl rfl rfl rfl rfl ⟨rfl, rfl, rfl, rfl, rfl⟩ rfl rfl rfl rfl rfl (by kernel_rfl) Try.func13 (by kernel_rfl)
    (of_decide_eq_true (by kernel_rfl)) (by unfold Func.isWrapper; first | (rw [if_pos (by decide +kernel)]; kernel_rfl) | (rw [if_neg (by decide +kernel)]; exact ⟨rfl, rfl⟩))
    (fun os started H enc _ => lifted os started H enc)

theorem proved : Rows.BookWritesSaid := over
#print axioms proved
end Go.Proofs.Ytolpfchnfhdhkaa.bookWrites
