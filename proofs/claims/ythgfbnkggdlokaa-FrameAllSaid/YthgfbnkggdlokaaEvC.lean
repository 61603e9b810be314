/-
  What reads an event from bytes, plain; and what a closure that reads a field does.
-/
import Derived.Test.YthgfbnkggdlokaaEvQ
import Derived.Test.YthgfbnkggdlokaaTake
namespace Go.Proofs.Ythgfbnkggdlokaa
open Go.RowKit
set_option maxRecDepth 100000

/-- A field: reads from the beginning of bytes, and keeps it in an event: the event, how many bytes, what is wrong. -/
abbrev Fl := Ev → List Nat → Ev × Nat × Nat
namespace Fl
def octR (lo hi : Int) : List Nat → Nat × Nat × Nat
  | [] => (0, 0, 2)
  | x :: _ => if (x : Int) < lo ∨ hi < (x : Int) then (0, 0, 3) else (x, 1, 0)
def numR (lo hi : Int) (xs : List Nat) : Nat × Nat × Nat :=
  if (Pl.take xs).2.2 ≠ 0 then (0, 0, (Pl.take xs).2.2)
  else if ((Pl.take xs).1 : Int) < lo ∨ hi < ((Pl.take xs).1 : Int) then (0, 0, 3) else ((Pl.take xs).1, (Pl.take xs).2.1, 0)
def wrdR (most : Int) (ok : ByteArray → Int) : List Nat → ByteArray × Nat × Nat
  | [] => (⟨#[]⟩, 0, 2)
  | n :: ys => if (n : Int) < 1 ∨ most < (n : Int) then (⟨#[]⟩, 0, 3) else if ys.length < n then (⟨#[]⟩, 0, 2)
    else if ok (str (ys.take n)) ≠ 0 then (⟨#[]⟩, 0, 3) else (str (ys.take n), n + 1, 0)
def leaf {α : Type} (R : List Nat → α × Nat × Nat) (set : α → Ev → Ev) : Fl := fun e xs => if (R xs).2.2 = 0 then (set (R xs).1 e, (R xs).2) else (e, (R xs).2)
def rowG : List Fl → Ev → List Nat → Nat → Ev × Nat × Nat
  | [], e, _, u => (e, u, 0)
  | f :: fs, e, xs, u => if (f e (xs.drop u)).2.2 = 0 then rowG fs (f e (xs.drop u)).1 xs (u + (f e (xs.drop u)).2.1) else ((f e (xs.drop u)).1, 0, (f e (xs.drop u)).2.2)
def row (fs : List Fl) : Fl := fun e xs => rowG fs e xs 0
def setR (x : Nat) (e : Ev) : Ev := { e with r := x }
def setN (x : Nat) (e : Ev) : Ev := { e with n := x }
def setC (j : Nat) (x : Nat) (e : Ev) : Ev := { e with c := e.c.set j x }
def setH (x : Nat) (e : Ev) : Ev := { e with h := x }
def setK (x : Nat) (e : Ev) : Ev := { e with k := x }
def setL (x : Nat) (e : Ev) : Ev := { e with l := x }
def setKey (x : ByteArray) (e : Ev) : Ev := { e with key := x }
def setV (x : ByteArray) (e : Ev) : Ev := { e with v := x }
/-- The fields of the first i numbers of a clock, but that of r. -/
def ots (r : Int) : Nat → List Fl
  | 0 => []
  | i + 1 => ots r i ++ if (i : Int) = r then [] else [leaf (numR 0 1048576) (setC i)]
def seenF : Fl := fun e xs => row (ots e.r 5) { e with c := e.c.set e.r.toNat (e.n - 1) } xs
def writtenF : Fl := fun e xs => if Ev.isW e.k then row [leaf (octR 0 1) setL, leaf (wrdR 12 Tx.value) setV] e xs else (e, 0, 0)
def all : List Fl := [leaf (octR 1 5) setK, leaf (octR 0 4) setR, leaf (numR 1 1048576) setN, seenF, leaf (numR 1 16777216) setH, leaf (wrdR 8 Tx.key) setKey, writtenF]
def takeF (xs : List Nat) : Ev × Nat × Nat := if (row all Ev.zero xs).2.2 = 0 then row all Ev.zero xs else (Ev.zero, 0, (row all Ev.zero xs).2.2)

theorem octR_le (lo hi : Int) (xs : List Nat) : (octR lo hi xs).2.1 ≤ xs.length := by
  cases xs with
  | nil => simp [octR]
  | cons x xs => rw [octR]; split <;> simp
theorem numR_le (lo hi : Int) (xs : List Nat) : (numR lo hi xs).2.1 ≤ xs.length := by
  unfold numR
  have h : (Pl.take xs).2.1 ≤ xs.length := by
    have := Pl.vlen_le xs
    unfold Pl.take
    split
    · simp
    · split <;> simp <;> omega
  split
  · simp
  · split
    · simp
    · exact h
theorem wrdR_le (most : Int) (ok : ByteArray → Int) (xs : List Nat) : (wrdR most ok xs).2.1 ≤ xs.length := by
  cases xs with
  | nil => simp [wrdR]
  | cons n ys =>
    rw [wrdR]
    split
    · simp
    · split
      · simp
      · split
        · simp
        · rename_i h _; simp; omega
/-- It takes no more than there is. -/
def Le (f : Fl) : Prop := ∀ e xs, (f e xs).2.1 ≤ xs.length
theorem leaf_le {α : Type} {R : List Nat → α × Nat × Nat} {set : α → Ev → Ev} (h : ∀ xs, (R xs).2.1 ≤ xs.length) : Le (leaf R set) := fun e xs => by
  unfold leaf
  split
  · exact h xs
  · exact h xs
theorem rowG_le : ∀ (fs : List Fl), (∀ f ∈ fs, Le f) → ∀ e xs u, u ≤ xs.length → (rowG fs e xs u).2.1 ≤ xs.length
  | [], _, e, xs, u, hu => hu
  | f :: fs, h, e, xs, u, hu => by
    rw [rowG]
    have h1 := h f (by simp) e (xs.drop u)
    rw [List.length_drop] at h1
    split
    · exact rowG_le fs (fun g hg => h g (by simp [hg])) _ _ _ (by omega)
    · simp
theorem row_le (fs : List Fl) (h : ∀ f ∈ fs, Le f) : Le (row fs) := fun e xs => rowG_le fs h e xs 0 (Nat.zero_le _)
theorem ots_le (r : Int) : ∀ i, ∀ f ∈ ots r i, Le f
  | 0, f, hf => by cases hf
  | i + 1, f, hf => by
    rw [ots, List.mem_append] at hf
    rcases hf with hf | hf
    · exact ots_le r i f hf
    · split at hf
      · cases hf
      · rw [List.mem_singleton] at hf; subst hf; exact leaf_le (numR_le 0 1048576)
theorem seenF_le : Le seenF := fun e _ => row_le _ (ots_le e.r 5) _ _
theorem writtenF_le : Le writtenF := fun e xs => by
  unfold writtenF
  split
  · refine row_le _ (fun f hf => ?_) _ _
    simp only [List.mem_cons, List.not_mem_nil, or_false] at hf
    rcases hf with rfl | rfl
    · exact leaf_le (octR_le 0 1)
    · exact leaf_le (wrdR_le 12 Tx.value)
  · simp
end Fl

/-! ### closures -/
theorem enters {P : Program} {f : FuncId} {fn : Func} {c : Code} (hf : P.funcs[f]? = some fn) (hname : (fn.name == "runtime.NumGoroutine") = false) (hb : fn.body = some c) : ∀ args w, (callFunc f args).run P w = .ok (.enter f args) w := fun args w => by
  have h1 : fn.name ≠ "runtime.NumGoroutine" := by simpa using hname
  simp [callFunc, hf, h1, hb]
/-- The blocks from lo on, below hi, are as they were. -/
def Keep (lo hi : Nat) (w w' : World) : Prop := ∀ k, lo ≤ k → k < hi → w'.heap[k]? = w.heap[k]?
namespace Keep
variable {lo hi : Nat} {w w' w'' : World}
theorem refl (lo hi : Nat) (w : World) : Keep lo hi w w := fun _ _ _ => rfl
theorem trans (h : Keep lo hi w w') (k : Keep lo hi w' w'') : Keep lo hi w w'' := fun j h1 h2 => (k j h1 h2).trans (h j h1 h2)
theorem less {lo' hi' : Nat} (h : Keep lo hi w w') (h1 : lo ≤ lo') (h2 : hi' ≤ hi) : Keep lo' hi' w w' := fun j a b => h j (by omega) (by omega)
theorem grown {b : Nat} (h : w.grownBy w' (some b)) (hb : b < lo) (hi' : hi ≤ w.heap.size) : Keep lo hi w w' := fun j a c => h.block j (by omega) (by simp; omega)
theorem up (h : Lex.Up w w') (hi' : hi ≤ w.heap.size) : Keep lo hi w w' := fun j _ c => h.block j (by omega)
theorem blk {b : Nat} {cs : Array Value} {t : TypeId} (h : Keep lo hi w w') (k : Blk w b cs t) (h1 : lo ≤ b) (h2 : b < hi) : Blk w' b cs t := by
  unfold Blk at *; rw [h b h1 h2]; exact k
end Keep
theorem up_by {w w' : World} (h : Lex.Up w w') (row : Option Nat) : w.grownBy w' row := ⟨h.os, h.tape, h.output, h.size, fun k hk _ => h.block k hk⟩
theorem by_set (w : World) (p : Addr) (v : Value) : w.grownBy (w.setCell p v) (some p.block) :=
  ⟨rfl, rfl, rfl, by simp [World.setCell], fun k _ hk => Below.heap_setCell w p v k (fun e => hk (by rw [e]))⟩
/-- A slice of bytes that doesn't lie in block b. -/
def SlcB (b : Nat) (w : World) (A : Option Addr) (n cap : Nat) (xs : List Nat) : Prop := Slc w A n cap xs ∧ (0 < n → ∀ x, A = some x → x.block ≠ b)
namespace SlcB
variable {b : Nat} {w w' : World} {A : Option Addr} {n cap : Nat} {xs : List Nat}
theorem by_ (h : SlcB b w A n cap xs) (hg : w.grownBy w' (some b)) : SlcB b w' A n cap xs := by
  obtain ⟨⟨hl, hc, hm, hlt, hcell⟩, hb⟩ := h
  refine ⟨⟨hl, hc, hm, hlt, fun h0 => ?_⟩, hb⟩
  obtain ⟨b', off, e, hbl, hcl⟩ := hcell h0
  have hne := hb h0 _ e
  exact ⟨b', off, e, Nat.lt_of_lt_of_le hbl hg.size, fun j hj => hg.cell (hcl j hj) (by simpa using hne)⟩
theorem drop (h : SlcB b w A n cap xs) {u : Nat} (hu : u ≤ n) : SlcB b w (if cap = u then A else A.map fun x => x.add u) (n - u) (cap - u) (xs.drop u) := by
  obtain ⟨⟨hl, hc, hm, hlt, hcell⟩, hb⟩ := h
  have hnth : ∀ j, Pl.nth (xs.drop u) j = Pl.nth xs (u + j) := fun j => by simp [Pl.nth, List.getD_eq_getElem?_getD, List.getElem?_drop]
  refine ⟨⟨by rw [List.length_drop, hl], by omega, by omega, fun j => by rw [hnth]; exact hlt _, fun h0 => ?_⟩, fun h0 x hx => ?_⟩
  · obtain ⟨b', off, rfl, hbl, hcl⟩ := hcell (by omega)
    rw [if_neg (by omega)]
    refine ⟨b', off + u, by simp [Addr.add], hbl, fun j hj => ?_⟩
    rw [hnth, Nat.add_assoc]
    exact hcl (u + j) (by omega)
  · obtain ⟨b', off, rfl, hbl, hcl⟩ := hcell (by omega)
    rw [if_neg (by omega)] at hx
    have := hb (by omega) _ rfl
    simp [Addr.add] at hx
    subst hx
    split <;> exact this
end SlcB

/-- A value was kept at p, if nothing was wrong. -/
def Wrote (w w' : World) (p : Addr) (z : Nat) (v : Value) : Prop := ∃ w1, Lex.Up w w1 ∧ w' = if z = 0 then w1.setCell p v else w1
theorem Wrote.ok {w w1 : World} {p : Addr} {v : Value} (h : Lex.Up w w1) : Wrote w (w1.setCell p v) p 0 v := ⟨w1, h, rfl⟩
theorem Wrote.bad {w w1 : World} {p : Addr} {z : Nat} {v : Value} (h : Lex.Up w w1) (hz : z ≠ 0) : Wrote w w1 p z v := ⟨w1, h, by rw [if_neg hz]⟩

section
variable {α : Type}
/-- What a closure that keeps a value at p does, where blocks lo to hi are as in w0. -/
def LeafAt (lo hi : Nat) (w0 : World) (F : Value) (p : Addr) (enc : α → Value) (R : List Nat → α × Nat × Nat) : Prop :=
  ∃ g caps, F = .func (.func g) #[] caps ∧ (∀ args w, (callFunc g args).run Try.prog w = .ok (.enter g args) w) ∧
    ∀ (w : World) (A : Option Addr) (n cap : Nat) (xs : List Nat), Keep lo hi w0 w → (∃ old, w.cell? p = some old) → w.frozen? p = false → Slc w A n cap xs →
      Calls Try.prog g (#[.slice A n cap] ++ caps) w fun x w' => x = .returned (.tuple #[.int .i64 ((R xs).2.1 : Nat), .int .i64 ((R xs).2.2 : Nat)]) ∧
        Wrote w w' p (R xs).2.2 (enc (R xs).1)
theorem LeafAt.later {lo hi lo' hi' : Nat} {w0 w1 : World} {F : Value} {p : Addr} {enc : α → Value} {R : List Nat → α × Nat × Nat} (h : LeafAt lo hi w0 F p enc R) (hk : Keep lo hi w0 w1) (h1 : lo' ≤ lo) (h2 : hi ≤ hi') : LeafAt lo' hi' w1 F p enc R := by
  obtain ⟨g, caps, e, eg, hc⟩ := h
  exact ⟨g, caps, e, eg, fun w A n cap xs hw => hc w A n cap xs (hk.trans (hw.less h1 h2))⟩
/-- What a closure that reads a field of the event in block b does. -/
def FieldOk (b lo hi : Nat) (w0 : World) (F : Value) (f : Fl) (pre : Ev → Prop) : Prop :=
  ∃ g caps, F = .func (.func g) #[] caps ∧ (∀ args w, (callFunc g args).run Try.prog w = .ok (.enter g args) w) ∧
    ∀ (w : World) (e : Ev) (A : Option Addr) (n cap : Nat) (xs : List Nat), Keep lo hi w0 w → Blk w b e.cells 51 → SlcB b w A n cap xs → pre e →
      Calls Try.prog g (#[.slice A n cap] ++ caps) w fun x w' => x = .returned (.tuple #[.int .i64 ((f e xs).2.1 : Nat), .int .i64 ((f e xs).2.2 : Nat)]) ∧
        Blk w' b (f e xs).1.cells 51 ∧ w.grownBy w' (some b)
theorem FieldOk.later {b lo hi lo' hi' : Nat} {w0 w1 : World} {F : Value} {f : Fl} {pre : Ev → Prop} (h : FieldOk b lo hi w0 F f pre) (hk : Keep lo hi w0 w1) (h1 : lo' ≤ lo) (h2 : hi ≤ hi') : FieldOk b lo' hi' w1 F f pre := by
  obtain ⟨g, caps, e, eg, hc⟩ := h
  exact ⟨g, caps, e, eg, fun w e A n cap xs hw => hc w e A n cap xs (hk.trans (hw.less h1 h2))⟩
theorem LeafAt.field {b lo hi j : Nat} {w0 : World} {F : Value} {enc : α → Value} {R : List Nat → α × Nat × Nat} {set : α → Ev → Ev} (h : LeafAt lo hi w0 F ⟨b, j, none⟩ enc R)
    (hj : ∀ e : Ev, ∃ old, e.cells[j]? = some old) (hs : ∀ x (e : Ev), e.cells.setIfInBounds j (enc x) = (set x e).cells) (pre : Ev → Prop) : FieldOk b lo hi w0 F (Fl.leaf R set) pre := by
  obtain ⟨g, caps, e, eg, hc⟩ := h
  refine ⟨g, caps, e, eg, fun w e A n cap xs hw hb hsl _ => ?_⟩
  obtain ⟨old, ho⟩ := hj e
  refine (hc w A n cap xs hw ⟨old, hb.cell ho⟩ (hb.frozen j) hsl.1).mono ?_
  rintro x w' ⟨rfl, w1, hu, hw'⟩
  unfold Fl.leaf
  by_cases hz : (R xs).2.2 = 0
  · rw [if_pos hz] at hw'
    rw [if_pos hz]
    subst hw'
    refine ⟨rfl, ?_, (up_by hu _).trans (by_set w1 ⟨b, j, none⟩ _)⟩
    have := (hb.up hu).set j (enc (R xs).1)
    rw [hs] at this
    exact this
  · rw [if_neg hz] at hw'
    rw [if_neg hz]
    subst hw'
    exact ⟨rfl, hb.up hu, up_by hu _⟩
end
end Go.Proofs.Ythgfbnkggdlokaa
