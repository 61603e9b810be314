/-
  More steps of a region walked in the order of its text: a value handed on, an append that grows.
-/
import Derived.Test.YthgfbnkggdlokaaFacts
import Derived.ArgAppend
namespace Go.Proofs.Ythgfbnkggdlokaa
open Go.RowKit
set_option maxRecDepth 100000
namespace Lex
section
variable {P : Program} {ops : Array Oper} {C : World → Prop} {Q : Exit → Act → World → Prop}
/-- An operation that hands on the value of one slot of which a fact is known. -/
theorem lex_pass {o : Oper} {l : List Oper} {D : Dirt} {a : Act} {t1 : Tmp} {R : Fact} (t : Tmp) (hl : looked ops o D = [(t1, R)]) (hw : ∀ v, Region.wanted o (yielded ops (a.put (some t1) v).tmps) = true) (ht : o.dst = some t) (hR : UpC R)
    (h : ∀ v w, (execOp (a.put (some t1) v).eval o).run P w = .ok (.value v) w) (hD : wiped o D = D) (k : wpLex P ops C Q l a ((t, R) :: D)) : wpLex P ops C Q (o :: l) a D :=
  lex_has t R ht hR (fun w hC => by rw [hl]; intro v hv; show opOk P ops o _ w _; unfold opOk; rw [hw, if_pos rfl, h v w]; exact ⟨Up.refl w, hv⟩) (by rw [hD]; exact k)
/-- One that hangs on two slots, and makes memory. -/
theorem lex_two {o : Oper} {l : List Oper} {D : Dirt} {a : Act} {t1 t2 : Tmp} {R1 R2 : Fact} (t : Tmp) (R : Fact) (hl : looked ops o D = [(t1, R1), (t2, R2)])
    (hw : ∀ u v, Region.wanted o (yielded ops ((a.put (some t1) u).put (some t2) v).tmps) = true) (ht : o.dst = some t) (hR : UpC R)
    (h : ∀ w, C w → ∀ u, R1 u w → ∀ v, R2 v w → ∃ x w', (execOp ((a.put (some t1) u).put (some t2) v).eval o).run P w = .ok (.value x) w' ∧ Up w w' ∧ R x w') (hD : wiped o D = D) (k : wpLex P ops C Q l a ((t, R) :: D)) : wpLex P ops C Q (o :: l) a D :=
  lex_has t R ht hR (fun w hC => by
    rw [hl]; intro u hu v hv; show opOk P ops o _ w _; unfold opOk; rw [hw, if_pos rfl]
    obtain ⟨x, w', e, hup, hx⟩ := h w hC u hu v hv
    rw [e]; exact ⟨hup, hx⟩) (by rw [hD]; exact k)
/-- A call that hangs on one slot of which a fact is known, and of whose value a fact is known. -/
theorem lex_callfact {o : Oper} {l : List Oper} {D : Dirt} {a : Act} {f : FuncId} {args : Value → Array Value} {t1 : Tmp} {R1 : Fact} (t : Tmp) (R : Fact) (hl : looked ops o D = [(t1, R1)]) (hw : ∀ v, Region.wanted o (yielded ops (a.put (some t1) v).tmps) = true)
    (ht : o.dst = some t) (hR : UpC R) (h : ∀ v w, (execOp (a.put (some t1) v).eval o).run P w = .ok (.enter f (args v)) w)
    (hc : ∀ w, C w → ∀ v, R1 v w → Calls P f (args v) w fun e w' => ∃ x, e = .returned x ∧ Up w w' ∧ R x w') (hD : wiped o D = D) (k : wpLex P ops C Q l a ((t, R) :: D)) : wpLex P ops C Q (o :: l) a D :=
  lex_has t R ht hR (fun w hC => by rw [hl]; intro v hv; show opOk P ops o _ w _; unfold opOk; rw [hw, if_pos rfl, h v w]; exact ⟨Up.refl w, hc w hC v hv⟩) (by rw [hD]; exact k)
end
end Lex
/-- The fact of a new array of bytes, whole as a slice. -/
def arrFact (xs : List Nat) : Lex.Fact := fun v w => ∃ b, v = .slice (some ⟨b, 0, none⟩) xs.length xs.length ∧ b < w.heap.size ∧ ∀ j u, (xs.map bv)[j]? = some u → w.cell? ⟨b, 0 + j, none⟩ = some u
theorem arrFact_up (xs : List Nat) : Lex.UpC (arrFact xs) := fun v w w' hu h => by
  obtain ⟨b, rfl, hb, hc⟩ := h
  exact ⟨b, rfl, Nat.lt_of_lt_of_le hb hu.size, fun j u hj => (hu.cell (p := ⟨b, 0 + j, none⟩) hb).trans (hc j u hj)⟩
theorem arr_made (w : World) (xs : List Nat) : Lex.Up w (w.alloc (.cells (xs.map bv).toArray 5)) ∧ arrFact xs (.slice (some ⟨w.heap.size, 0, none⟩) xs.length xs.length) (w.alloc (.cells (xs.map bv).toArray 5)) :=
  ⟨(Below.refl _ _).alloc (Nat.le_refl _) _, w.heap.size, rfl, by simp, fun j u hj => by
    have := new_cells w (xs.map bv) 5 j u hj
    have hadd : (⟨w.heap.size, 0, none⟩ : Addr).add j = ⟨w.heap.size, 0 + j, none⟩ := by unfold Addr.add; split <;> simp_all
    rwa [hadd] at this⟩
theorem arr_slc {xs : List Nat} {v : Value} {w : World} (h : arrFact xs v w) (hx : ∀ x ∈ xs, x < 256) (hm : xs.length ≤ 9223372036854775807) : slcFact xs v w := by
  obtain ⟨b, rfl, hb, hc⟩ := h
  refine ⟨_, _, rfl, rfl, Nat.le_refl _, hm, fun j => ?_, fun _ => ⟨b, 0, rfl, hb, fun j hj => ?_⟩⟩
  · unfold Pl.nth
    rw [List.getD_eq_getElem?_getD]
    by_cases hj : j < xs.length
    · rw [List.getElem?_eq_getElem hj]; exact hx _ (List.getElem_mem hj)
    · rw [List.getElem?_eq_none (by omega)]; simp
  · exact hc j _ (by simp [Pl.nth, hj])
/-- The fact of a row of bytes that lies from block B on. -/
def ownFact (B : Nat) (xs : List Nat) : Lex.Fact := fun v w => w.ownsRow B 5 1 v xs.length (xs.map bv)
theorem ownFact_up (B : Nat) (xs : List Nat) : Lex.UpC (ownFact B xs) := fun v w w' hu h => by
  refine ⟨h.1, ?_⟩
  rcases h.2 with h2 | ⟨g, cap, cur, hv, hg, hgg, r⟩
  · exact Or.inl h2
  · have hlt : g < w.heap.size := by
      rcases Nat.lt_or_ge g w.heap.size with k | k
      · exact k
      · rw [Array.getElem?_eq_none k] at hgg; cases hgg
    exact Or.inr ⟨g, cap, cur, hv, hg, by rw [hu.block g hlt]; exact hgg, r⟩
/-- An array's bytes with some behind it: a new array. -/
theorem append_grows {w : World} {u v : Value} {xs ys : List Nat} (hu : arrFact xs u w) (hv : slcFact ys v w) (h0 : 0 < ys.length) (hl : xs.length + ys.length ≤ 1000000) (B : Nat) (hB : B ≤ w.heap.size) (ty : TypeId) :
    ∃ x w', (Builtin.append_ #[27, 27] ty #[u, v]).run Try.prog w = .ok x w' ∧ Lex.Up w w' ∧ ownFact B (xs ++ ys) x w' := by
  obtain ⟨i0, hi, hz0, hz1, hz2⟩ := info_parts info5
  obtain ⟨b, rfl, hb, hc⟩ := hu
  obtain ⟨A, cap, rfl, hs⟩ := hv
  obtain ⟨b2, off2, rfl, hb2, hc2⟩ := hs.2.2.2.2 h0
  obtain ⟨x, w', hr, hown, hg⟩ := run_append_arg_grows (P := Try.prog) w 27 ty 5 i0 (.int .u8 0) 1 1 Try.underlying27 hi hz0 hz1 hz2 rfl (by decide) ⟨b, 0, none⟩ xs.length xs.length (xs.map bv) (by simp)
    (fun j y hy => by
      have hadd : (⟨b, 0, none⟩ : Addr).add j = ⟨b, 0 + j, none⟩ := by unfold Addr.add; split <;> simp_all
      rw [hadd]; exact hc j y hy) ⟨b2, off2, none⟩ ys.length cap (ys.map bv) (by simp)
    (fun j y hy => by
      have hadd : (⟨b2, off2, none⟩ : Addr).add j = ⟨b2, off2 + j, none⟩ := by unfold Addr.add; split <;> simp_all
      have hj : j < ys.length := by
        rcases Nat.lt_or_ge j ys.length with k | k
        · exact k
        · rw [List.getElem?_eq_none (by simpa using k)] at hy; cases hy
      rw [hadd, hc2 j hj]
      simp [hj] at hy
      simp [Pl.nth, hj, ← hy]) (by omega) (by simp only [maxLen]; omega) (by omega)
  refine ⟨x, w', hr, ⟨hg.os, hg.tape, hg.output, hg.size, fun k hk => hg.block k hk (by simp)⟩, ?_⟩
  have h1 : w'.ownsRow w.heap.size 5 1 x (xs ++ ys).length ((xs ++ ys).map bv) := by simpa using hown
  exact own_mono h1 hB
/-- The same as a step: the array in slot ts, what is appended in tx. -/
theorem lex_grow {ops : Array Oper} {C : World → Prop} {Q : Exit → Act → World → Prop} {o : Oper} {l : List Oper} {D : Lex.Dirt} {a : Act} {ts tx : Tmp} {xs ys : List Nat} (t : Tmp) (B : Nat)
    (ho : o.op = .call { callee := .builtin .append, args := #[.tmp ts, .tmp tx], argTypes := #[27, 27] }) (hl : Lex.looked ops o D = [(tx, slcFact ys), (ts, arrFact xs)])
    (hw : ∀ u v, Region.wanted o (yielded ops ((a.put (some tx) u).put (some ts) v).tmps) = true) (ht : o.dst = some t) (hev : ∀ u v, ((a.put (some tx) u).put (some ts) v).eval (.tmp ts) = v ∧ ((a.put (some tx) u).put (some ts) v).eval (.tmp tx) = u)
    (h0 : 0 < ys.length) (hn : xs.length + ys.length ≤ 1000000) (hB : ∀ w, C w → B ≤ w.heap.size) (hD : Lex.wiped o D = D) (k : Lex.wpLex Try.prog ops C Q l a ((t, ownFact B (xs ++ ys)) :: D)) : Lex.wpLex Try.prog ops C Q (o :: l) a D :=
  Lex.lex_two t (ownFact B (xs ++ ys)) hl hw ht (ownFact_up _ _) (fun w hC u hu v hv => by
    obtain ⟨x, w', hr, hup, hx⟩ := append_grows hv hu h0 hn B (hB w hC) o.type
    refine ⟨x, w', ?_, hup, hx⟩
    obtain ⟨e1, e2⟩ := hev u v
    unfold execOp
    simp only [ho, resolve, invoke, builtin, Sem.run_bind, Sem.run_pure, Result.andThen_ok, List.map_toArray, List.map_cons, List.map_nil, e1, e2, hr]) hD k
end Go.Proofs.Ythgfbnkggdlokaa
