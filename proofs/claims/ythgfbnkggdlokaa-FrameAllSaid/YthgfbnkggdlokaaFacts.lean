/-
  Facts of slots for the walk of a region that draws its order (Lex): a slice of these bytes.
-/
import Derived.Test.YthgfbnkggdlokaaBase
import Derived.Test.YthgfbnkggdlokaaLex
namespace Go.Proofs.Ythgfbnkggdlokaa
open Go.RowKit
set_option maxRecDepth 100000
theorem below_two {B : Nat} {w w0 w1 w2 : World} (h : Below B w w0) (hB : B ≤ w0.heap.size) (h1 : Below w0.drew.heap.size w0.drew w1) (h2 : Below w1.heap.size w1 w2) : Below B w w2 :=
  (h.drew.trans (h1.mono hB)).trans (h2.mono (Nat.le_trans hB h1.size))

/-- The fact of a slice of these bytes. -/
def slcFact (xs : List Nat) : Lex.Fact := fun v w => ∃ A cap, v = .slice A xs.length cap ∧ Slc w A xs.length cap xs
theorem slcFact_up (xs : List Nat) : Lex.UpC (slcFact xs) := fun v w w' hu h => by
  obtain ⟨A, cap, rfl, hs⟩ := h
  exact ⟨A, cap, rfl, hs.below hu⟩
theorem call_slc {P : Program} {f : FuncId} {args : Array Value} {w : World} {xs : List Nat} (h : Calls P f args w (RetBytes w xs)) (hx : ∀ x ∈ xs, x < 256) :
    Calls P f args w fun e w' => ∃ v, e = .returned v ∧ Lex.Up w w' ∧ slcFact xs v w' :=
  h.mono fun e w' he => by
    obtain ⟨A, cap, rfl, hown, hb⟩ := he
    exact ⟨_, rfl, hb, A, cap, rfl, slc_of_own hown hx⟩

end Go.Proofs.Ythgfbnkggdlokaa
