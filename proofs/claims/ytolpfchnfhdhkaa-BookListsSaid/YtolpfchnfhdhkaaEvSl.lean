/-
  A row of events in memory.
-/
import Derived.Test.YtolpfchnfhdhkaaEv
import Derived.Test.YtolpfchnfhdhkaaRun
namespace Go.Proofs.Ytolpfchnfhdhkaa
open Go.RowKit
set_option maxRecDepth 100000

/-- The cells of a row of events. -/
def evc : List Ev → List Value
  | [] => []
  | e :: es => e.cells.toList ++ evc es
def Ev.nth (es : List Ev) (k : Nat) : Ev := es.getD k Ev.zero
theorem Ev.cells_len (e : Ev) : e.cells.toList.length = 12 := rfl
theorem evc_len (es : List Ev) : (evc es).length = es.length * 12 := by
  induction es with
  | nil => rfl
  | cons e es ih => rw [evc, List.length_append, ih, Ev.cells_len, List.length_cons]; omega
theorem evc_append (xs ys : List Ev) : evc (xs ++ ys) = evc xs ++ evc ys := by
  induction xs with
  | nil => rfl
  | cons e es ih => rw [List.cons_append, evc, ih, evc, List.append_assoc]
theorem evc_one (e : Ev) : evc [e] = e.cells.toList := by simp [evc]
theorem evc_nth : ∀ (es : List Ev) (k : Nat), k < es.length → ∀ i v, i < 12 → (Ev.nth es k).cells.toList[i]? = some v → (evc es)[k * 12 + i]? = some v
  | [], k, h, _, _, _, _ => by simp at h
  | e :: es, 0, _, i, v, hi, hv => by
    rw [evc, Nat.zero_mul, Nat.zero_add, List.getElem?_append_left (by rw [Ev.cells_len]; exact hi)]
    exact hv
  | e :: es, k + 1, h, i, v, hi, hv => by
    rw [evc, List.getElem?_append_right (by rw [Ev.cells_len]; omega), Ev.cells_len, show (k + 1) * 12 + i - 12 = k * 12 + i by omega]
    exact evc_nth es k (by simpa using h) i v hi hv
theorem evc_take : ∀ (es : List Ev) (u : Nat), (evc es).take (u * 12) = evc (es.take u)
  | [], u => by simp [evc]
  | e :: es, 0 => by simp [evc]
  | e :: es, u + 1 => by
    rw [evc, List.take_succ_cons, evc, ← evc_take es u, List.take_append, Ev.cells_len, show (u + 1) * 12 - 12 = u * 12 by omega, List.take_of_length_le (by rw [Ev.cells_len]; omega)]
theorem evc_one' (es : List Ev) : ∀ u ∈ evc es, u.oneCell' = true := by
  induction es with
  | nil => intro u hu; cases hu
  | cons e es ih =>
    intro u hu
    rw [evc, List.mem_append] at hu
    rcases hu with hu | hu
    · simp [Ev.cells] at hu
      rcases hu with rfl | rfl | rfl | rfl | rfl | rfl | rfl | rfl | rfl | rfl | rfl | rfl <;> rfl
    · exact ih u hu
/-- A slice value with these events in it. -/
def EvSl (w : World) (A : Option Addr) (n cap : Nat) (es : List Ev) : Prop := Sl w 12 A n cap (evc es)
namespace EvSl
variable {w w' : World} {A : Option Addr} {n cap : Nat} {es : List Ev}
theorem len (h : EvSl w A n cap es) : es.length = n := by
  have h1 : (evc es).length = n * 12 := h.1
  rw [evc_len] at h1; omega
theorem up (h : EvSl w A n cap es) (hb : Lex.Up w w') : EvSl w' A n cap es := Sl.up h hb
theorem lim (h : EvSl w A n cap es) : n ≤ 9223372036854775807 := Nat.le_trans h.2.1 h.2.2.1
theorem addr (h : EvSl w A n cap es) (h0 : 0 < n) : ∃ b off, A = some ⟨b, off, none⟩ := by
  obtain ⟨b, off, e, _⟩ := h.2.2.2 h0
  exact ⟨b, off, e⟩
theorem take (h : EvSl w A n cap es) {u : Nat} (hu : u ≤ n) : EvSl w A u cap (es.take u) := by
  have := Sl.take h hu
  rw [evc_take] at this
  exact this
theorem none (w : World) : EvSl w none 0 0 [] := Sl.none w 12
end EvSl
/-- Element k of a slice of events. -/
theorem ev_at {w : World} {b off n cap : Nat} {es : List Ev} (h : EvSl w (some ⟨b, off, none⟩) n cap es) {k : Nat} (hk : k < n) :
    w.cell? ⟨b, off + k * 12, none⟩ = some (.int .i64 (Ev.nth es k).r) ∧ w.cell? ⟨b, off + k * 12 + 1, none⟩ = some (.int .i64 (Ev.nth es k).n) ∧ w.cell? ⟨b, off + k * 12 + 2, none⟩ = some (.int .i64 (Ev.nth es k).c.c0) ∧
    w.cell? ⟨b, off + k * 12 + 3, none⟩ = some (.int .i64 (Ev.nth es k).c.c1) ∧ w.cell? ⟨b, off + k * 12 + 4, none⟩ = some (.int .i64 (Ev.nth es k).c.c2) ∧ w.cell? ⟨b, off + k * 12 + 5, none⟩ = some (.int .i64 (Ev.nth es k).c.c3) ∧
    w.cell? ⟨b, off + k * 12 + 6, none⟩ = some (.int .i64 (Ev.nth es k).c.c4) ∧ w.cell? ⟨b, off + k * 12 + 7, none⟩ = some (.int .i64 (Ev.nth es k).h) ∧ w.cell? ⟨b, off + k * 12 + 8, none⟩ = some (.int .i64 (Ev.nth es k).k) ∧
    w.cell? ⟨b, off + k * 12 + 9, none⟩ = some (.string (Ev.nth es k).key) ∧ w.cell? ⟨b, off + k * 12 + 10, none⟩ = some (.int .i64 (Ev.nth es k).l) ∧ w.cell? ⟨b, off + k * 12 + 11, none⟩ = some (.string (Ev.nth es k).v) := by
  have hl := h.len
  obtain ⟨b', off', e, hbl, hcell⟩ := h.2.2.2 (by omega)
  obtain ⟨rfl, rfl⟩ : b = b' ∧ off = off' := by simpa using e
  have key : ∀ i v, i < 12 → (Ev.nth es k).cells.toList[i]? = some v → w.cell? ⟨b, off + k * 12 + i, none⟩ = some v := fun i v hi hv => by
    rw [Nat.add_assoc]
    exact hcell _ _ (evc_nth es k (by omega) i v hi hv)
  exact ⟨key 0 _ (by omega) rfl, key 1 _ (by omega) rfl, key 2 _ (by omega) rfl, key 3 _ (by omega) rfl, key 4 _ (by omega) rfl, key 5 _ (by omega) rfl, key 6 _ (by omega) rfl, key 7 _ (by omega) rfl, key 8 _ (by omega) rfl,
    key 9 _ (by omega) rfl, key 10 _ (by omega) rfl, key 11 _ (by omega) rfl⟩

end Go.Proofs.Ytolpfchnfhdhkaa
