/-
  More steps of a region walked in the order of its text: a row of the call's own that begins empty, and gets a copy of a slice.
-/
import Derived.Test.YthgfbnkggdlokaaRun
import Derived.ArgAppend
namespace Go.Proofs.Ythgfbnkggdlokaa
open Go.RowKit
set_option maxRecDepth 100000

/-- An empty new slice of these elements. -/
def emptyFact (e : TypeId) (B : Nat) : Lex.Fact := fun v w => ∃ b, v = .slice (some ⟨b, 0, none⟩) 0 0 ∧ B ≤ b ∧ w.heap[b]? = some (.cells #[] e (0, 0))
theorem emptyFact_up (e : TypeId) (B : Nat) : Lex.UpC (emptyFact e B) := fun v w w' hu h => by
  obtain ⟨b, rfl, hB, hb⟩ := h
  have hlt : b < w.heap.size := by
    rcases Nat.lt_or_ge b w.heap.size with k | k
    · exact k
    · rw [Array.getElem?_eq_none k] at hb; cases hb
  exact ⟨b, rfl, hB, by rw [hu.block b hlt]; exact hb⟩
theorem empty_made (w : World) (e : TypeId) (B : Nat) (hB : B ≤ w.heap.size) : Lex.Up w (w.alloc (.cells #[] e)) ∧ emptyFact e B (.slice (some ⟨w.heap.size, 0, none⟩) 0 0) (w.alloc (.cells #[] e)) :=
  ⟨(Below.refl _ _).alloc (Nat.le_refl _) _, w.heap.size, rfl, hB, heap_alloc_new _ _⟩
/-- A row from block B on, of these cells. -/
def rowFact (e : TypeId) (sz B n : Nat) (xs : List Value) : Lex.Fact := fun v w => w.ownsRow B e sz v n xs
theorem rowFact_up (e : TypeId) (sz B n : Nat) (xs : List Value) : Lex.UpC (rowFact e sz B n xs) := fun _ _ _ hu h => own_up h hu
namespace Elem
variable {P : Program} {t e : TypeId} {z : Value} {size bytes : Nat}
/-- 'append([]T{}, s...)': a row of its own. -/
theorem append_empty (E : Elem P t e z size bytes) {w : World} {B : Nat} {u : Value} (hu : emptyFact e B u w) {A : Option Addr} {m c : Nat} {ys : List Value} (hsl : Sl w size A m c ys) (h1 : m * bytes ≤ 140737488355328) (h2 : m ≤ maxLen) (hB : B ≤ w.heap.size) (ty : TypeId) :
    ∃ x w', (Builtin.append_ #[t, t] ty #[u, .slice A m c]).run P w = .ok x w' ∧ Lex.Up w w' ∧ rowFact e size B m ys x w' := by
  obtain ⟨b, rfl, hBb, hb⟩ := hu
  obtain ⟨i0, hi, hz0, hz1, hz2⟩ := info_parts E.info
  obtain ⟨hl, hmc, hcm, hcell⟩ := hsl
  have hown : w.ownsRow B e size (.slice (some ⟨b, 0, none⟩) 0 0) 0 [] := ⟨by simp, .inr ⟨b, 0, #[], rfl, hBb, hb, Nat.le_refl _, by decide, by simp, by simp⟩⟩
  rcases Nat.eq_zero_or_pos m with h0 | h0
  · subst h0
    have hy : ys = [] := List.eq_nil_of_length_eq_zero (by simpa using hl)
    subst hy
    have hr : (Builtin.append_ #[t, t] ty #[.slice (some ⟨b, 0, none⟩) 0 0, .slice A 0 c]).run P w = .ok (.slice (some ⟨b, 0, none⟩) 0 0) w := by
      simp [Builtin.append_, run_underlying E.ut, sizeOf, typeInfo, hi, Builtin.lenOf, Builtin.firstCells, storeCells]
      rcases A with _ | A
      · simp [storeCells]
      · simp [loadCells, loadCellsFrom, storeCells]
    exact ⟨_, _, hr, Lex.Up.refl w, hown⟩
  · obtain ⟨b2, off2, rfl, hb2, hc2⟩ := hcell h0
    obtain ⟨x, w', hr, ho, hg⟩ := run_append_arg_grows (P := P) w t ty e i0 z size bytes E.ut hi hz0 hz1 hz2 E.zs E.pos ⟨b, 0, none⟩ 0 0 [] (by simp) (fun j u hu => by cases hu) ⟨b2, off2, none⟩ m c ys hl
      (fun j u hu => by
        have hadd : (⟨b2, off2, none⟩ : Addr).add j = ⟨b2, off2 + j, none⟩ := by unfold Addr.add; split <;> simp_all
        rw [hadd]; exact hc2 j u hu) (by omega) (by omega) (by simpa using h1)
    refine ⟨x, w', hr, ⟨hg.os, hg.tape, hg.output, hg.size, fun k hk => hg.block k hk (by simp)⟩, ?_⟩
    have ho' : w'.ownsRow w.heap.size e size x m ys := by simpa using ho
    refine ⟨ho'.1, ?_⟩
    rcases ho'.2 with q | ⟨g, cap, cur, q1, q2, q3⟩
    · exact .inl q
    · exact .inr ⟨g, cap, cur, q1, Nat.le_trans hB q2, q3⟩
/-- The same as a step: the empty row in slot ts. -/
theorem lex_copy (E : Elem P t e z size bytes) {ops : Array Oper} {C : World → Prop} {Q : Exit → Act → World → Prop} {o : Oper} {l : List Oper} {D : Lex.Dirt} {a : Act} {ts : Tmp} {B : Nat} (td : Tmp) (x : Operand)
    (ho : o.op = .call { callee := .builtin .append, args := #[.tmp ts, x], argTypes := #[t, t] }) (hl : Lex.looked ops o D = [(ts, emptyFact e B)])
    (hw : ∀ u, Region.wanted o (yielded ops (a.put (some ts) u).tmps) = true) (ht : o.dst = some td) (A : Option Addr) (m c : Nat) (ys : List Value) (hev : ∀ u, (a.put (some ts) u).eval (.tmp ts) = u ∧ (a.put (some ts) u).eval x = .slice A m c)
    (hsl : ∀ w, C w → Sl w size A m c ys) (h1 : m * bytes ≤ 140737488355328) (h2 : m ≤ maxLen) (hB : ∀ w, C w → B ≤ w.heap.size) (hD : Lex.wiped o D = D) (k : Lex.wpLex P ops C Q l a ((td, rowFact e size B m ys) :: D)) : Lex.wpLex P ops C Q (o :: l) a D :=
  Lex.lex_has td (rowFact e size B m ys) ht (rowFact_up _ _ _ _ _) (fun w hC => by
    rw [hl]
    intro u hu
    show Lex.opOk P ops o _ w _
    unfold Lex.opOk
    rw [hw, if_pos rfl]
    obtain ⟨y, w', hr, hup, hy⟩ := E.append_empty hu (hsl w hC) h1 h2 (hB w hC) o.type
    obtain ⟨e1, e2⟩ := hev u
    have he : (execOp (a.put (some ts) u).eval o).run P w = .ok (.value y) w' := by
      unfold execOp
      simp only [ho, resolve, invoke, builtin, Sem.run_bind, Sem.run_pure, Result.andThen_ok, List.map_toArray, List.map_cons, List.map_nil, e1, e2, hr]
    rw [he]
    exact ⟨hup, hy⟩) (by rw [hD]; exact k)
end Elem
end Go.Proofs.Ythgfbnkggdlokaa
