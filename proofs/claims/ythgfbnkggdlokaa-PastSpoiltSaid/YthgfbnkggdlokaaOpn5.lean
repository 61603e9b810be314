/-
  An edit, a slice of bytes that are handed in, opened; how long its texts may be.
-/
import Derived.Test.YthgfbnkggdlokaaEdt
import Derived.Test.YthgfbnkggdlokaaArr
import Derived.Lib.SmallJoins
import Derived.ChangeMaps5
import Derived.SizedLaws
namespace Go.Proofs.Ythgfbnkggdlokaa
open Go.RowKit Go.ChangeShapes Go.WideShapes Go.Deep
set_option maxRecDepth 100000
section
variable {H : Type} {enc : TypeId × Value → H} {w : World} {base : Nat} {spare : Nat → Bool} {held : Bool} {r : Reach} {b0 : Nat} {v : Value} {d : DataW H} {p : List MemPlace}

/-- An edit as a datum. -/
def edDat (H : Type) (x : Ed) : DataW H := .agg [.lit (.int .i64 x.k), .lit (.string x.key.data.toList), .lit (.int .i64 x.l), .lit (.string x.v.data.toList)]
theorem open_ed (hv : Value.okWide Try.prog w r b0 96 v) (h : DataW.Trod enc Try.prog w base spare held 96 v d p) : ∃ x : Ed, v = x.val ∧ d = edDat H x := by
  obtain ⟨v0, v1, v2, v3, y0, y1, y2, y3, _, rfl, rfl, _, t0, t1, t2, t3⟩ := Go.Joins.open_agg4 Try.underlying96 (by kernel_rfl) (by kernel_rfl) hv h
  obtain ⟨a, e0, x0, _⟩ := DataW.trod_int Try.underlying3 t0
  obtain ⟨s, e1, x1, _⟩ := DataW.trod_string Try.underlying9 t1
  obtain ⟨c, e2, x2, _⟩ := DataW.trod_int Try.underlying3 t2
  obtain ⟨u, e3, x3, _⟩ := DataW.trod_string Try.underlying9 t3
  simp only [List.cons.injEq, and_true] at e0 e1 e2 e3
  subst e0 e1 e2 e3 x0 x1 x2 x3
  exact ⟨⟨a, s, c, u⟩, rfl, rfl⟩
theorem ed_sized {ts : List TypeId} {ds : List (DataW H)} (h : (DataW.weightsEach Try.prog ts ds).all (· ≤ reachBytes) = true) {j : Nat} {x : Ed} (ht : ts[j]? = some 96) (hd : ds[j]? = some (edDat H x)) :
    x.key.size ≤ 140737488351232 ∧ x.v.size ≤ 140737488351232 := by
  have len : ∀ s : ByteArray, s.data.toList.length = s.size := fun s => by rw [Array.length_toList]; rfl
  have h1 := List.all_eq_true.1 h _ (DataW.weights_mem_each ht hd x.key.size (by simp [edDat, DataW.weights, DataW.weightsEach, Try.underlying96, len]))
  have h2 := List.all_eq_true.1 h _ (DataW.weights_mem_each ht hd x.v.size (by simp [edDat, DataW.weights, DataW.weightsEach, Try.underlying96, len]))
  have : reachBytes = 140737488351232 := by decide
  simp only [decide_eq_true_eq, this] at h1 h2
  exact ⟨h1, h2⟩
end
end Go.Proofs.Ythgfbnkggdlokaa
