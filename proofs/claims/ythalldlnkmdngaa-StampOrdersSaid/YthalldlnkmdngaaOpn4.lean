/-
  A stamp, a slice of stamps, two numbers that are handed in, opened.
-/
import Derived.Test.YthalldlnkmdngaaStpW
import Derived.Test.YthalldlnkmdngaaArr
import Derived.Lib.SmallJoins
import Derived.Deep.SlicePairs
namespace Go.Proofs.Ythalldlnkmdngaa
open Go.RowKit Go.ChangeShapes Go.WideShapes Go.Deep
section
variable {H : Type} {enc : TypeId × Value → H} {w : World} {base : Nat} {spare : Nat → Bool} {held : Bool} {r : Reach} {b0 : Nat} {v : Value} {d : DataW H} {p : List MemPlace}

theorem i64_wf {z : Int} (h : (Lit.int .i64 z).wf = true) : -9223372036854775808 ≤ z ∧ z ≤ 9223372036854775807 := by
  simp [Lit.wf, IntKind.min, IntKind.max, IntKind.bits, IntKind.signed] at h
  omega
theorem u8_nat {a : Int} (h : (Lit.int .u8 a).wf = true) : ∃ n : Nat, a = n ∧ n < 256 := by
  simp [Lit.wf, IntKind.min, IntKind.max, IntKind.bits, IntKind.signed] at h
  exact ⟨a.toNat, by omega, by omega⟩
theorem u16_nat {a : Int} (h : (Lit.int .u16 a).wf = true) : ∃ n : Nat, a = n ∧ n < 65536 := by
  simp [Lit.wf, IntKind.min, IntKind.max, IntKind.bits, IntKind.signed] at h
  exact ⟨a.toNat, by omega, by omega⟩
theorem open_stp (hv : Value.okWide Try.prog w r b0 23 v) (h : DataW.Trod enc Try.prog w base spare held 23 v d p) : ∃ s : Stp, v = s.val := by
  obtain ⟨v0, v1, y0, y1, _, rfl, _, _, t0, t1⟩ := Go.Joins.open_agg2 Try.underlying23 (by kernel_rfl) (by kernel_rfl) hv h
  obtain ⟨a, e0, _, _⟩ := DataW.trod_int Try.underlying3 t0
  obtain ⟨b, e1, _, _⟩ := DataW.trod_int Try.underlying3 t1
  simp only [List.cons.injEq, and_true] at e0 e1
  subst e0 e1
  exact ⟨⟨a, b⟩, rfl⟩
theorem open_stps (hv : Value.okWide Try.prog w r b0 24 v) (h : DataW.Trod enc Try.prog w base spare held 24 v d p) : ∃ A len cap xs, v = .slice A len cap ∧ Sl w 2 A len cap (Stp.flat xs) := by
  obtain ⟨A, len, cap, rfl⟩ := okWide_slice Try.underlying24 hv
  obtain ⟨fuel, hf⟩ := h
  rcases open_slice_pairs Try.underlying24 Try.underlying23 (by kernel_rfl) rfl rfl (by kernel_rfl) (by kernel_rfl) hf with ⟨hc, _⟩ | ⟨a, len', cap', m, n, V0, V1, D0, D1, P0, P1, hc, _, hl, hm, hmm, _, hx⟩
  · simp only [Value.cells, List.cons.injEq, Value.slice.injEq, and_true] at hc
    obtain ⟨rfl, rfl, rfl⟩ := hc
    exact ⟨none, 0, 0, [], rfl, Sl.none w 2⟩
  · simp only [Value.cells, List.cons.injEq, Value.slice.injEq, and_true] at hc
    obtain ⟨rfl, rfl, rfl⟩ := hc
    have hlm : len ≤ m := by rw [hmm]; split <;> omega
    obtain ⟨f, hff⟩ := choose_lt (α := Int × Int) (p := fun i q => V0 i = .int .i64 q.1 ∧ V1 i = .int .i64 q.2) (n := m) (fun i hi => by
      obtain ⟨_, _, t0, t1⟩ := hx i hi
      obtain ⟨a, e0, _, _⟩ := DataW.trod_int Try.underlying3 t0
      obtain ⟨b, e1, _, _⟩ := DataW.trod_int Try.underlying3 t1
      simp only [List.cons.injEq, and_true] at e0 e1
      exact ⟨(a, b), e0, e1⟩)
    have hnth : ∀ i, i < len → Stp.nth ((List.range len).map fun i => (⟨(f i).1, (f i).2⟩ : Stp)) i = ⟨(f i).1, (f i).2⟩ := fun i hi => by
      rw [Stp.nth_lt (by simpa using hi)]; simp
    refine ⟨some a, len, cap, (List.range len).map fun i => ⟨(f i).1, (f i).2⟩, rfl, by rw [Stp.flat_length]; simp, hl, by simp only [maxLen] at hm; omega, fun h0 => ?_⟩
    obtain ⟨b, off, sp⟩ := a
    have h00 := (hx 0 (by omega)).1
    have hsp : sp = none := by simpa [Addr.add] using World.cell?_spot h00
    subst hsp
    have hlt := World.block_lt_of_cell? w _ h00
    have hadd : ∀ j, (⟨b, off, none⟩ : Addr).add j = ⟨b, off + j, none⟩ := fun j => by unfold Addr.add; split <;> simp_all
    refine ⟨b, off, rfl, by simpa [hadd] using hlt, fun j u hu => ?_⟩
    have hj : j < len * 2 := by
      rcases Nat.lt_or_ge j (len * 2) with h | h
      · exact h
      · rw [List.getElem?_eq_none (by rw [Stp.flat_length]; simpa using h)] at hu; cases hu
    have hi : j / 2 < len := by omega
    obtain ⟨q0, q1⟩ := Stp.flat_nth ((List.range len).map fun i => (⟨(f i).1, (f i).2⟩ : Stp)) (j / 2) (by simpa using hi)
    rw [hnth _ hi] at q0 q1
    obtain ⟨c0, c1, _, _⟩ := hx (j / 2) (by omega)
    rw [hadd] at c0 c1
    rcases Nat.mod_two_eq_zero_or_one j with e | e
    · have ej : j = j / 2 * 2 := by omega
      rw [ej, q0] at hu
      injection hu with hu
      rw [ej, c0, ← hu, (hff _ (by omega)).1]
    · have ej : j = j / 2 * 2 + 1 := by omega
      rw [ej, q1] at hu
      injection hu with hu
      rw [ej, c1, ← hu, (hff _ (by omega)).2]
end
end Go.Proofs.Ythalldlnkmdngaa
