/-
  A map whose keys are of any type, as a list of its entries: what a look-up and a store come to.
-/
import Derived.Test.YtolpfchnfhdhkaaEvM
import Derived.Test.YtolpfchnfhdhkaaRun
import Derived.Laws.StructEq
import Derived.WideKeyRuns
import Derived.ChangeMaps4
import Derived.Carry
namespace Go.Proofs.Ytolpfchnfhdhkaa
open Go.RowKit
set_option maxRecDepth 100000
set_option maxRecDepth 100000

namespace Gm
variable {K : Type} [DecidableEq K]
/-- The first value of a key, and where it stands. -/
def find : List (K × Value) → K → Nat → Option (Nat × Value)
  | [], _, _ => none
  | (k, v) :: l, m, i => if m = k then some (i, v) else find l m (i + 1)
def get (ms : List (K × Value)) (m : K) : Option Value := (find ms m 0).map (·.2)
def put : List (K × Value) → K → Value → List (K × Value)
  | [], m, v => [(m, v)]
  | (k, x) :: l, m, v => if m = k then (m, v) :: l else (k, x) :: put l m v
theorem find_map : ∀ (ms : List (K × Value)) (m : K) (i j : Nat), (find ms m i).map (·.2) = (find ms m j).map (·.2)
  | [], _, _, _ => rfl
  | (k, v) :: l, m, i, j => by
    unfold find
    split
    · rfl
    · exact find_map l m _ _
theorem get_cons (k : K) (v : Value) (l : List (K × Value)) (m : K) : get ((k, v) :: l) m = if m = k then some v else get l m := by
  unfold get
  rw [find]
  split
  · rfl
  · exact find_map l m _ _
theorem get_nil (m : K) : get [] m = none := rfl
theorem get_put (ms : List (K × Value)) (m k : K) (v : Value) : get (put ms m v) k = if k = m then some v else get ms k := by
  induction ms with
  | nil => rw [put, get_cons, get_nil]
  | cons p l ih =>
    obtain ⟨a, x⟩ := p
    rw [put]
    split
    · rename_i h
      subst h
      rw [get_cons, get_cons]
      split <;> rfl
    · rename_i h
      rw [get_cons, ih, get_cons]
      by_cases h1 : k = a
      · subst h1
        rw [if_pos rfl, if_pos rfl, if_neg (fun e => h e.symm)]
      · rw [if_neg h1, if_neg h1]
theorem put_length (ms : List (K × Value)) (m : K) (v : Value) : (put ms m v).length ≤ ms.length + 1 := by
  induction ms with
  | nil => simp [put]
  | cons p l ih =>
    obtain ⟨a, x⟩ := p
    rw [put]
    split
    · simp
    · simp; omega
theorem get_none {ms : List (K × Value)} {m : K} (h : get ms m = none) : ∀ p ∈ ms, p.1 ≠ m := by
  induction ms with
  | nil => intro p hp; cases hp
  | cons q l ih =>
    obtain ⟨a, x⟩ := q
    rw [get_cons] at h
    split at h
    · cases h
    · rename_i hm
      intro p hp
      rcases List.mem_cons.1 hp with rfl | hp
      · exact fun e => hm e.symm
      · exact ih h p hp
theorem find_ge : ∀ (ms : List (K × Value)) (m : K) (i : Nat) {j : Nat} {v : Value}, find ms m i = some (j, v) → i ≤ j ∧ ∃ k, ms[j - i]? = some (k, v) ∧ m = k
  | [], _, _, _, _, h => by cases h
  | (k, x) :: l, m, i, j, v, h => by
    unfold find at h
    split at h
    · rename_i hm
      injection h with h; injection h with h1 h2
      subst h1 h2
      exact ⟨Nat.le_refl _, k, by simp, hm⟩
    · obtain ⟨h1, k', h2, h3⟩ := find_ge l m (i + 1) h
      refine ⟨by omega, k', ?_, h3⟩
      rw [show j - i = (j - (i + 1)) + 1 by omega]
      simpa using h2
theorem put_some : ∀ (ms : List (K × Value)) (m : K) (v : Value) (i j : Nat) (x : Value), find ms m i = some (j, x) → put ms m v = ms.modify (j - i) fun p => (p.1, v)
  | [], _, _, _, _, _, h => by cases h
  | (k, y) :: l, m, v, i, j, x, h => by
    unfold find at h
    rw [put]
    split at h
    · rename_i hm
      injection h with h; injection h with h1 h2
      subst h1
      rw [if_pos hm, hm]
      simp
    · rename_i hm
      have hg2 := (find_ge _ _ _ h).1
      rw [if_neg hm, put_some l m v (i + 1) j x h, show j - i = (j - (i + 1)) + 1 by omega]
      simp
theorem put_none : ∀ (ms : List (K × Value)) (m : K) (v : Value) (i : Nat), find ms m i = none → put ms m v = ms ++ [(m, v)]
  | [], _, _, _, _ => rfl
  | (k, y) :: l, m, v, i, h => by
    unfold find at h
    rw [put]
    split at h
    · cases h
    · rename_i hm
      rw [if_neg hm, put_none l m v (i + 1) h, List.cons_append]
end Gm

/-- What is known of a key's type. -/
structure KeyT (K : Type) [DecidableEq K] where
  t : TypeId
  val : K → Value
  inj : ∀ a b, val a = val b → a = b
  find : ∀ (m : K) (w : World) (l : List MapEntry) (ms : List (K × Value)), l.map (fun e => (e.key, e.val)) = ms.map (fun p => (val p.1, p.2)) → (Instr.findKey t (val m) l).run Try.prog w = .ok (Gm.find ms m 0) w
  chk : ∀ (m : K) (em : Bool) (w : World), (Instr.checkKey em 10000 t (val m)).run Try.prog w = .ok () w
  stays : ∀ (m : K) (w : World), (Instr.keyThatStays (val m) (val m)).run Try.prog w = .ok (val m) w

section
variable {K : Type} [DecidableEq K] (T : KeyT K)
/-- Block b is a map of these keys to these values. -/
def Gm (w : World) (b : Nat) (ms : List (K × Value)) : Prop :=
  ∃ (es : Array MapEntry) (n : Nat), w.heap[b]? = some (.map es n) ∧ es.toList.map (fun e => (e.key, e.val)) = ms.map (fun p => (T.val p.1, p.2)) ∧ MapKept.Stamped es n
end
namespace Gm
variable {K : Type} [DecidableEq K] {T : KeyT K} {w : World} {b : Nat} {ms : List (K × Value)}
theorem lt (h : Gm T w b ms) : b < w.heap.size := by
  obtain ⟨es, n, h, _⟩ := h
  rcases Nat.lt_or_ge b w.heap.size with k | k
  · exact k
  · rw [Array.getElem?_eq_none k] at h; cases h
theorem of_block {w' : World} (h : Gm T w b ms) (hb : w'.heap[b]? = w.heap[b]?) : Gm T w' b ms := by
  obtain ⟨es, n, h, e⟩ := h
  exact ⟨es, n, by rw [hb]; exact h, e⟩
theorem up {w' : World} (h : Gm T w b ms) (hu : Lex.Up w w') : Gm T w' b ms := h.of_block (hu.block b h.lt)
theorem new (T : KeyT K) (w : World) : Gm T (w.alloc (.map #[] 0)) w.heap.size [] := ⟨#[], 0, heap_alloc_new _ _, rfl, MapKept.stamped_empty 0⟩
theorem alloc (h : Gm T w b ms) (o : Obj) : Gm T (w.alloc o) b ms := h.up ((Below.refl _ _).alloc (Nat.le_refl _) o)
theorem setCell (h : Gm T w b ms) {p : Addr} (hp : b ≠ p.block) (v : Value) : Gm T (w.setCell p v) b ms := h.of_block (Below.heap_setCell w p v b hp)
theorem grown {w' : World} {o : Option Nat} (h : Gm T w b ms) (hg : w.grownBy w' o) (hne : some b ≠ o) : Gm T w' b ms := h.of_block (hg.block b h.lt hne)

/-- What a look-up yields. -/
theorem look (t e : TypeId) (ht : Try.prog.underlying t = some (.map T.t e)) {z : Value} (hz : (zeroValue e).run Try.prog w = .ok z w) (h : Gm T w b ms) (m : K) (ok : Bool) :
    (Instr.lookup t (.map (some b)) (T.val m) ok).run Try.prog w = .ok (if ok then .tuple #[(get ms m).getD z, .bool (get ms m).isSome] else (get ms m).getD z) w := by
  obtain ⟨es, n, hb, he, _⟩ := h
  have hf := T.find m w _ _ he
  have hc := T.chk m
  unfold get
  cases hq : find ms m 0 with
  | none =>
    rw [hq] at hf
    simp [Instr.lookup, run_underlying ht, MapKept.run_getObj_map hb, hc, hf, hz, Result.andThen]
  | some p =>
    obtain ⟨i, v⟩ := p
    rw [hq] at hf
    simp [Instr.lookup, run_underlying ht, MapKept.run_getObj_map hb, hc, hf, Result.andThen]
/-- A store. -/
theorem store (t e : TypeId) (ht : Try.prog.underlying t = some (.map T.t e)) (h : Gm T w b ms) (m : K) (v : Value) :
    ∃ w', (Instr.mapUpdate t (.map (some b)) (T.val m) v).run Try.prog w = .ok () w' ∧ Gm T w' b (put ms m v) ∧ w.grownBy w' (some b) := by
  obtain ⟨es, n, hb, he, hst⟩ := h
  have hf := T.find m w _ _ he
  have hc := T.chk m
  have hlt : b < w.heap.size := Gm.lt (T := T) ⟨es, n, hb, he, hst⟩
  have gr : ∀ o, w.grownBy { w with heap := w.heap.setIfInBounds b o } (some b) := fun o => ⟨rfl, rfl, rfl, by simp, fun j _ hj => by
    have : b ≠ j := fun e => hj (by rw [e])
    simp [this]⟩
  cases hq : find ms m 0 with
  | none =>
    rw [hq] at hf
    have hg : get ms m = none := by unfold get; rw [hq]; rfl
    refine ⟨{ w with heap := w.heap.setIfInBounds b (.map (es.push ⟨T.val m, v, n⟩) (n + 1)) }, ?_, ⟨es.push ⟨T.val m, v, n⟩, n + 1, by simp [hlt], ?_, ?_⟩, gr _⟩
    · simp [Instr.mapUpdate, run_underlying ht, MapKept.run_getObj_map hb, hc, hf, MapKept.run_setObj_map _ hb, Result.andThen]
    · rw [put_none ms m v 0 hq]
      simp [he]
    · refine MapKept.stamped_push hst fun x hx hk => ?_
      have hmem : (x.key, x.val) ∈ es.toList.map (fun e => (e.key, e.val)) := List.mem_map.2 ⟨x, hx, rfl⟩
      rw [he] at hmem
      obtain ⟨p, hp, hpe⟩ := List.mem_map.1 hmem
      injection hpe with h1 h2
      exact get_none hg p hp (T.inj _ _ (h1.trans hk))
  | some p =>
    obtain ⟨i, x⟩ := p
    rw [hq] at hf
    obtain ⟨_, k, hk, rfl⟩ := find_ge ms m 0 hq
    rw [Nat.sub_zero] at hk
    have hmap := congrArg (fun l => l[i]?) he
    simp only [List.getElem?_map, hk, Option.map_some] at hmap
    obtain ⟨e0, he0, he1⟩ : ∃ e0, es[i]? = some e0 ∧ e0.key = T.val m := by
      cases hc : es.toList[i]? with
      | none => rw [hc] at hmap; cases hmap
      | some e0 =>
        rw [hc] at hmap
        simp at hmap
        exact ⟨e0, by simpa using hc, hmap.1⟩
    have hs := T.stays m w
    refine ⟨{ w with heap := w.heap.setIfInBounds b (.map (es.modify i fun e => { e with key := T.val m, val := v }) n) }, ?_, ⟨es.modify i fun e => { e with key := T.val m, val := v }, n, by simp [hlt], ?_, ?_⟩, gr _⟩
    · simp [Instr.mapUpdate, run_underlying ht, MapKept.run_getObj_map hb, hc, hf, MapKept.run_setObj_map _ hb, Result.andThen, he0, he1, hs]
    · rw [put_some ms m v 0 i x hq, Nat.sub_zero]
      apply List.ext_getElem?
      intro j
      have hj := congrArg (fun l => l[j]?) he
      simp only [List.getElem?_map] at hj
      simp only [Array.toList_modify, List.getElem?_map, List.getElem?_modify]
      by_cases hij : i = j
      · subst hij
        rw [hk] at hj ⊢
        have : es.toList[i]? = some e0 := by simpa using he0
        simp [this]
      · simp only [hij, if_false]
        cases h1 : es.toList[j]? <;> cases h2 : ms[j]? <;> simp [h1, h2] at hj ⊢
        exact hj
    · refine MapKept.stamped_modify hst i _ (fun e _ => rfl) fun e _ hi => ?_
      rw [he0] at hi
      injection hi with hi
      subst hi
      exact he1.symm
end Gm

theorem beq_bytes (a b : ByteArray) : (a == b) = decide (a = b) := by
  obtain ⟨x⟩ := a
  obtain ⟨y⟩ := b
  show (x == y) = _
  by_cases h : x = y
  · simp [h]
  · have : (x == y) = false := by simpa using h
    rw [this]; simp [h]
/-- Keys that are texts. -/
theorem findNow_str (s : ByteArray) : ∀ (l : List MapEntry) (ms : List (ByteArray × Value)) (i : Nat), l.map (fun e => (e.key, e.val)) = ms.map (fun p => (Value.string p.1, p.2)) →
    Instr.findNow .string (.string s) l i = some (Gm.find ms s i)
  | [], ms, i, h => by
    cases ms with
    | nil => rfl
    | cons p ms => simp at h
  | e :: l, ms, i, h => by
    cases ms with
    | nil => simp at h
    | cons p ms =>
      obtain ⟨k, v⟩ := p
      simp only [List.map_cons, List.cons.injEq, Prod.mk.injEq] at h
      obtain ⟨⟨hk, hv⟩, hl⟩ := h
      have ih := findNow_str s l ms (i + 1) hl
      rw [Instr.findNow, Gm.find, hk]
      simp only [Instr.sameNow, hv]
      rw [beq_bytes]
      by_cases hm : s = k
      · simp [hm]
      · rw [decide_eq_false hm, if_neg hm]
        exact ih
theorem findNow_int (s : Int) : ∀ (l : List MapEntry) (ms : List (Int × Value)) (i : Nat), l.map (fun e => (e.key, e.val)) = ms.map (fun p => (Value.int .i64 p.1, p.2)) →
    Instr.findNow (.int .i64) (.int .i64 s) l i = some (Gm.find ms s i)
  | [], ms, i, h => by
    cases ms with
    | nil => rfl
    | cons p ms => simp at h
  | e :: l, ms, i, h => by
    cases ms with
    | nil => simp at h
    | cons p ms =>
      obtain ⟨k, v⟩ := p
      simp only [List.map_cons, List.cons.injEq, Prod.mk.injEq] at h
      obtain ⟨⟨hk, hv⟩, hl⟩ := h
      have ih := findNow_int s l ms (i + 1) hl
      rw [Instr.findNow, Gm.find, hk]
      simp only [Instr.sameNow, hv, if_true]
      by_cases hm : s = k
      · simp [hm]
      · have : (s == k) = false := by simpa using hm
        rw [this, if_neg hm]
        exact ih
def strKey : KeyT ByteArray where
  t := 9
  val := fun s => .string s
  inj := fun a b h => by injection h
  find := fun m w l ms h => MapKept.run_findKey Try.underlying9 (findNow_str m l ms 0 h)
  chk := fun m em w => MapKept.run_checkKey (P := Try.prog) (k := .string m) Try.underlying9 (by simp [MapKept.IsKey]) em 9999
  stays := fun m w => by simp [Instr.keyThatStays, Instr.sameBits, beq_bytes]
def intKey : KeyT Int where
  t := 3
  val := fun s => .int .i64 s
  inj := fun a b h => by injection h
  find := fun m w l ms h => MapKept.run_findKey Try.underlying3 (findNow_int m l ms 0 h)
  chk := fun m em w => MapKept.run_checkKey (P := Try.prog) (k := .int .i64 m) Try.underlying3 (by simp [MapKept.IsKey]) em 9999
  stays := fun m w => by simp [Instr.keyThatStays, Instr.sameBits]
end Go.Proofs.Ytolpfchnfhdhkaa
