/-
  A map whose keys are marks: what a look-up, a store, and len come to.
-/
import Derived.Test.YthgfbnkggdlokaaEv
import Derived.Test.YthgfbnkggdlokaaRun
import Derived.Laws.StructEq
import Derived.WideKeyRuns
import Derived.ChangeMaps4
import Derived.Carry
namespace Go.Proofs.Ythgfbnkggdlokaa
open Go.RowKit
set_option maxRecDepth 100000
set_option maxRecDepth 100000

structure Mk where
  r : Int
  n : Int
deriving DecidableEq
namespace Mk
def val (m : Mk) : Value := .agg #[.int .i64 m.r, .int .i64 m.n]
def cells (m : Mk) : Array Value := #[.int .i64 m.r, .int .i64 m.n]
theorem ext_iff' (a b : Mk) : a = b ↔ a.r = b.r ∧ a.n = b.n := by cases a; cases b; simp
theorem val_inj {a b : Mk} (h : a.val = b.val) : a = b := by
  cases a; cases b
  simp [val] at h
  simp [h]
end Mk
def Ev.mk' (e : Ev) : Mk := ⟨e.r, e.n⟩

/-- Two marks compared. -/
theorem eq_mrk (a0 a1 b0 b1 : Int) (w : World) : (Op.equalIn 10000 81 (.agg #[.int .i64 a0, .int .i64 a1]) (.agg #[.int .i64 b0, .int .i64 b1])).run Try.prog w = .ok (decide (a0 = b0 ∧ a1 = b1)) w := by
  have u5 := Try.underlying3
  have a5 := Try.isAgg3
  have z5 := Try.sizeOf3
  rw [show (10000 : Nat) = 9999 + 1 from rfl, run_equalIn_struct w 9999 81 _ _ (by kernel_rfl) (by kernel_rfl)]
  have u23 := Try.underlying81
  go_simp
  by_cases h0 : a0 = b0 <;> by_cases h1 : a1 = b1 <;> simp [h0, h1]
theorem eq_mk (a b : Mk) (w : World) : (Op.equal 81 a.val b.val).run Try.prog w = .ok (decide (a = b)) w := by
  have := eq_mrk a.r a.n b.r b.n w
  unfold Mk.val
  show (Op.equalIn 10000 _ _ _).run _ _ = _
  rw [this]
  simp only [Mk.ext_iff']
theorem check_mk (m : Mk) (em : Bool) (w : World) : (Instr.checkKey em 10000 81 m.val).run Try.prog w = .ok () w := by
  have u5 := Try.underlying3
  have a5 := Try.isAgg3
  have z5 := Try.sizeOf3
  have u23 := Try.underlying81
  have hI : ∀ x w, (Instr.checkKey em 9999 3 (.int .i64 x)).run Try.prog w = .ok () w := fun x w => MapKept.run_checkKey (P := Try.prog) (k := .int .i64 x) u5 (by simp [MapKept.IsKey]) em 9998
  unfold Mk.val
  rw [show (10000 : Nat) = 9999 + 1 from rfl, Instr.checkKey]
  generalize 9999 = N at *
  go_simp
namespace Mm
/-- The first value of a mark, and where it stands. -/
def find : List (Mk × Value) → Mk → Nat → Option (Nat × Value)
  | [], _, _ => none
  | (k, v) :: l, m, i => if m = k then some (i, v) else find l m (i + 1)
def get (ms : List (Mk × Value)) (m : Mk) : Option Value := (find ms m 0).map (·.2)
def put : List (Mk × Value) → Mk → Value → List (Mk × Value)
  | [], m, v => [(m, v)]
  | (k, x) :: l, m, v => if m = k then (m, v) :: l else (k, x) :: put l m v
theorem find_map : ∀ (ms : List (Mk × Value)) (m : Mk) (i j : Nat), (find ms m i).map (·.2) = (find ms m j).map (·.2)
  | [], _, _, _ => rfl
  | (k, v) :: l, m, i, j => by
    unfold find
    split
    · rfl
    · exact find_map l m _ _
theorem get_cons (k : Mk) (v : Value) (l : List (Mk × Value)) (m : Mk) : get ((k, v) :: l) m = if m = k then some v else get l m := by
  unfold get
  rw [find]
  split
  · rfl
  · exact find_map l m _ _
theorem get_nil (m : Mk) : get [] m = none := rfl
theorem get_put (ms : List (Mk × Value)) (m k : Mk) (v : Value) : get (put ms m v) k = if k = m then some v else get ms k := by
  induction ms with
  | nil => rw [put, get_cons, get_nil]
  | cons p l ih =>
    obtain ⟨a, x⟩ := p
    rw [put]
    split
    · rename_i h
      subst h
      rw [get_cons, get_cons]
      split <;> rfl
    · rename_i h
      rw [get_cons, ih, get_cons]
      by_cases h1 : k = a
      · subst h1
        rw [if_pos rfl, if_pos rfl, if_neg (fun e => h e.symm)]
      · rw [if_neg h1, if_neg h1]
theorem put_length (ms : List (Mk × Value)) (m : Mk) (v : Value) : (put ms m v).length = ms.length + if (get ms m).isSome then 0 else 1 := by
  induction ms with
  | nil => rfl
  | cons p l ih =>
    obtain ⟨a, x⟩ := p
    rw [put, get_cons]
    split
    · simp
    · rw [List.length_cons, List.length_cons, ih]; omega
end Mm
/-- Block b is a map of these marks to these values. -/
def Mm (w : World) (b : Nat) (ms : List (Mk × Value)) : Prop :=
  ∃ (es : Array MapEntry) (n : Nat), w.heap[b]? = some (.map es n) ∧ es.toList.map (fun e => (e.key, e.val)) = ms.map fun p => (p.1.val, p.2)
namespace Mm
variable {w : World} {b : Nat} {ms : List (Mk × Value)}
theorem lt (h : Mm w b ms) : b < w.heap.size := by
  obtain ⟨es, n, h, _⟩ := h
  rcases Nat.lt_or_ge b w.heap.size with k | k
  · exact k
  · rw [Array.getElem?_eq_none k] at h; cases h
theorem up {w' : World} (h : Mm w b ms) (hu : Lex.Up w w') : Mm w' b ms := by
  have := hu.block b h.lt
  obtain ⟨es, n, h, e⟩ := h
  exact ⟨es, n, by rw [this]; exact h, e⟩
theorem of_block {w' : World} (h : Mm w b ms) (hb : w'.heap[b]? = w.heap[b]?) : Mm w' b ms := by
  obtain ⟨es, n, h, e⟩ := h
  exact ⟨es, n, by rw [hb]; exact h, e⟩
theorem new (w : World) : Mm (w.alloc (.map #[] 0)) w.heap.size [] := ⟨#[], 0, heap_alloc_new _ _, rfl⟩
theorem alloc (h : Mm w b ms) (o : Obj) : Mm (w.alloc o) b ms := h.up ((Below.refl _ _).alloc (Nat.le_refl _) o)
theorem setCell (h : Mm w b ms) {p : Addr} (hp : b ≠ p.block) (v : Value) : Mm (w.setCell p v) b ms := h.of_block (Below.heap_setCell w p v b hp)

theorem asking (m : Mk) (w : World) : ∀ (l : List MapEntry) (ms : List (Mk × Value)) (i : Nat), l.map (fun e => (e.key, e.val)) = ms.map (fun p => (p.1.val, p.2)) →
    (Instr.findAsking 81 m.val l i).run Try.prog w = .ok (find ms m i) w
  | [], ms, i, h => by
    cases ms with
    | nil => rfl
    | cons p ms => simp at h
  | e :: l, ms, i, h => by
    cases ms with
    | nil => simp at h
    | cons p ms =>
      obtain ⟨k, v⟩ := p
      simp only [List.map_cons, List.cons.injEq, Prod.mk.injEq] at h
      obtain ⟨⟨hk, hv⟩, hl⟩ := h
      have ih := asking m w l ms (i + 1) hl
      rw [Instr.findAsking, find]
      simp only [Sem.run_bind, hk, eq_mk, Result.andThen_ok, hv]
      by_cases hm : m = k
      · simp [hm]
      · simp [hm, ih]
theorem run_find (m : Mk) (w : World) {l : List MapEntry} {ms : List (Mk × Value)} (h : l.map (fun e => (e.key, e.val)) = ms.map (fun p => (p.1.val, p.2))) :
    (Instr.findKey 81 m.val l).run Try.prog w = .ok (find ms m 0) w := by
  rw [run_findKey_eq (P := Try.prog) w (by kernel_rfl)]
  exact asking m w l ms 0 h
/-- What a look-up yields. -/
theorem look (t e : TypeId) (ht : Try.prog.underlying t = some (.map 81 e)) {z : Value} (hz : (zeroValue e).run Try.prog w = .ok z w) (h : Mm w b ms) (m : Mk) (ok : Bool) :
    (Instr.lookup t (.map (some b)) m.val ok).run Try.prog w = .ok (if ok then .tuple #[(get ms m).getD z, .bool (get ms m).isSome] else (get ms m).getD z) w := by
  obtain ⟨es, n, hb, he⟩ := h
  have hf := run_find m w he
  unfold get
  cases hq : find ms m 0 with
  | none =>
    rw [hq] at hf
    simp [Instr.lookup, run_underlying ht, MapKept.run_getObj_map hb, check_mk, hf, hz, Result.andThen]
  | some p =>
    obtain ⟨i, v⟩ := p
    rw [hq] at hf
    simp [Instr.lookup, run_underlying ht, MapKept.run_getObj_map hb, check_mk, hf, Result.andThen]
theorem find_ge : ∀ (ms : List (Mk × Value)) (m : Mk) (i : Nat) {j : Nat} {v : Value}, find ms m i = some (j, v) → i ≤ j ∧ ∃ k, ms[j - i]? = some (k, v) ∧ m = k
  | [], _, _, _, _, h => by cases h
  | (k, x) :: l, m, i, j, v, h => by
    unfold find at h
    split at h
    · rename_i hm
      injection h with h; injection h with h1 h2
      subst h1 h2
      exact ⟨Nat.le_refl _, k, by simp, hm⟩
    · obtain ⟨h1, k', h2, h3⟩ := find_ge l m (i + 1) h
      refine ⟨by omega, k', ?_, h3⟩
      rw [show j - i = (j - (i + 1)) + 1 by omega]
      simpa using h2
theorem put_some : ∀ (ms : List (Mk × Value)) (m : Mk) (v : Value) (i j : Nat) (x : Value), find ms m i = some (j, x) → put ms m v = ms.modify (j - i) fun p => (p.1, v)
  | [], _, _, _, _, _, h => by cases h
  | (k, y) :: l, m, v, i, j, x, h => by
    have hg := (find_ge _ _ _ h).1
    unfold find at h
    rw [put]
    split at h
    · rename_i hm
      injection h with h; injection h with h1 h2
      subst h1
      rw [if_pos hm, hm]
      simp
    · rename_i hm
      have hg2 := (find_ge _ _ _ h).1
      rw [if_neg hm, put_some l m v (i + 1) j x h, show j - i = (j - (i + 1)) + 1 by omega]
      simp
theorem put_none : ∀ (ms : List (Mk × Value)) (m : Mk) (v : Value) (i : Nat), find ms m i = none → put ms m v = ms ++ [(m, v)]
  | [], _, _, _, _ => rfl
  | (k, y) :: l, m, v, i, h => by
    unfold find at h
    rw [put]
    split at h
    · cases h
    · rename_i hm
      rw [if_neg hm, put_none l m v (i + 1) h, List.cons_append]
/-- A store. -/
theorem store (t e : TypeId) (ht : Try.prog.underlying t = some (.map 81 e)) (h : Mm w b ms) (m : Mk) (v : Value) :
    ∃ w', (Instr.mapUpdate t (.map (some b)) m.val v).run Try.prog w = .ok () w' ∧ Mm w' b (put ms m v) ∧ w.grownBy w' (some b) := by
  obtain ⟨es, n, hb, he⟩ := h
  have hf := run_find m w he
  have hlt : b < w.heap.size := Mm.lt ⟨es, n, hb, he⟩
  have gr : ∀ o, w.grownBy { w with heap := w.heap.setIfInBounds b o } (some b) := fun o => ⟨rfl, rfl, rfl, by simp, fun j _ hj => by
    have : b ≠ j := fun e => hj (by rw [e])
    simp [this]⟩
  cases hq : find ms m 0 with
  | none =>
    rw [hq] at hf
    refine ⟨{ w with heap := w.heap.setIfInBounds b (.map (es.push ⟨m.val, v, n⟩) (n + 1)) }, ?_, ⟨es.push ⟨m.val, v, n⟩, n + 1, by simp [hlt], ?_⟩, gr _⟩
    · simp [Instr.mapUpdate, run_underlying ht, MapKept.run_getObj_map hb, check_mk, hf, MapKept.run_setObj_map _ hb, Result.andThen]
    · rw [put_none ms m v 0 hq]
      simp [he]
  | some p =>
    obtain ⟨i, x⟩ := p
    rw [hq] at hf
    obtain ⟨_, k, hk, rfl⟩ := find_ge ms m 0 hq
    rw [Nat.sub_zero] at hk
    have hmap := congrArg (fun l => l[i]?) he
    simp only [List.getElem?_map, hk, Option.map_some] at hmap
    obtain ⟨e0, he0, he1⟩ : ∃ e0, es[i]? = some e0 ∧ e0.key = m.val := by
      cases hc : es.toList[i]? with
      | none => rw [hc] at hmap; cases hmap
      | some e0 =>
        rw [hc] at hmap
        simp at hmap
        exact ⟨e0, by simpa using hc, hmap.1⟩
    have hs : (Instr.keyThatStays m.val m.val).run Try.prog w = .ok m.val w := by
      simp [Instr.keyThatStays, Mk.val, Instr.sameBits]
    refine ⟨{ w with heap := w.heap.setIfInBounds b (.map (es.modify i fun e => { e with key := m.val, val := v }) n) }, ?_, ⟨es.modify i fun e => { e with key := m.val, val := v }, n, by simp [hlt], ?_⟩, gr _⟩
    · simp [Instr.mapUpdate, run_underlying ht, MapKept.run_getObj_map hb, check_mk, hf, MapKept.run_setObj_map _ hb, Result.andThen, he0, he1, hs]
    · rw [put_some ms m v 0 i x hq, Nat.sub_zero]
      apply List.ext_getElem?
      intro j
      have hj := congrArg (fun l => l[j]?) he
      simp only [List.getElem?_map] at hj
      simp only [Array.toList_modify, List.getElem?_map, List.getElem?_modify]
      by_cases hij : i = j
      · subst hij
        rw [hk] at hj ⊢
        have : es.toList[i]? = some e0 := by simpa using he0
        simp [this]
      · simp only [hij, if_false]
        cases h1 : es.toList[j]? <;> cases h2 : ms[j]? <;> simp [h1, h2] at hj ⊢
        exact hj
end Mm
end Go.Proofs.Ythgfbnkggdlokaa
