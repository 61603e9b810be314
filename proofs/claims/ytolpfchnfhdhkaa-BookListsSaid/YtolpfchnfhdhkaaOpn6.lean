/-
  An event that is handed in, opened; how long its texts may be.
-/
import Derived.Test.YtolpfchnfhdhkaaEv
import Derived.Test.YtolpfchnfhdhkaaArr
import Derived.Lib.SmallJoins
import Derived.ChangeMaps5
import Derived.SizedLaws
namespace Go.Proofs.Ytolpfchnfhdhkaa
open Go.RowKit Go.ChangeShapes Go.WideShapes Go.Deep
set_option maxRecDepth 100000
section
variable {H : Type} {enc : TypeId × Value → H} {w : World} {base : Nat} {spare : Nat → Bool} {held : Bool} {r : Reach} {b0 : Nat} {v : Value} {d : DataW H} {p : List MemPlace}

/-- An event as a datum. -/
def evDat (H : Type) (x : Ev) : DataW H := .agg [.lit (.int .i64 x.r), .lit (.int .i64 x.n), .agg [.lit (.int .i64 x.c.c0), .lit (.int .i64 x.c.c1), .lit (.int .i64 x.c.c2), .lit (.int .i64 x.c.c3), .lit (.int .i64 x.c.c4)],
  .lit (.int .i64 x.h), .lit (.int .i64 x.k), .lit (.string x.key.data.toList), .lit (.int .i64 x.l), .lit (.string x.v.data.toList)]
theorem open_five {c0 c1 c2 c3 c4 : Value} {n : Nat} {y : DataW H × List MemPlace} (h : DataW.trod enc Try.prog w base spare held n 24 [c0, c1, c2, c3, c4] = some y) :
    ∃ c : Ck, [c0, c1, c2, c3, c4] = [.int .i64 c.c0, .int .i64 c.c1, .int .i64 c.c2, .int .i64 c.c3, .int .i64 c.c4] ∧ y.1 = .agg [.lit (.int .i64 c.c0), .lit (.int .i64 c.c1), .lit (.int .i64 c.c2), .lit (.int .i64 c.c3), .lit (.int .i64 c.c4)] := by
  obtain ⟨xs, m, _, rfl, hl, hxl, hel⟩ := DataW.trod_array Try.underlying24 h
  have h1 : Try.prog.cellsOf 3 = 1 := by kernel_rfl
  match xs, hxl with
  | [y0, y1, y2, y3, y4], _ =>
    have t0 := hel 0 (by omega)
    have t1 := hel 1 (by omega)
    have t2 := hel 2 (by omega)
    have t3 := hel 3 (by omega)
    have t4 := hel 4 (by omega)
    simp [h1] at t0 t1 t2 t3 t4
    obtain ⟨a0, e0, x0, _⟩ := DataW.trod_int Try.underlying3 t0
    obtain ⟨a1, e1, x1, _⟩ := DataW.trod_int Try.underlying3 t1
    obtain ⟨a2, e2, x2, _⟩ := DataW.trod_int Try.underlying3 t2
    obtain ⟨a3, e3, x3, _⟩ := DataW.trod_int Try.underlying3 t3
    obtain ⟨a4, e4, x4, _⟩ := DataW.trod_int Try.underlying3 t4
    simp only [List.cons.injEq, and_true] at e0 e1 e2 e3 e4
    subst e0 e1 e2 e3 e4 x0 x1 x2 x3 x4
    exact ⟨⟨a0, a1, a2, a3, a4⟩, rfl, rfl⟩
/-- Twelve cells that read as an event. -/
theorem open_ev_cells {fuel : Nat} {cs : List Value} {y : DataW H × List MemPlace} (hsz' : cs.length = 12) (hf : DataW.trod enc Try.prog w base spare held fuel 39 cs = some y) : ∃ x : Ev, cs = x.cells.toList ∧ y.1 = evDat H x := by
  obtain ⟨xs, n, _, hx, hl, hlen, hfd⟩ := DataW.trod_struct Try.underlying39 hf
  have h1 : Try.prog.cellsOf 3 = 1 := by kernel_rfl
  have h5 : Try.prog.cellsOf 24 = 5 := by kernel_rfl
  have h9 : Try.prog.cellsOf 9 = 1 := by kernel_rfl
  match cs, hsz' with
  | [c0, c1, c2, c3, c4, c5, c6, c7, c8, c9, c10, c11], _ =>
    match xs, hlen with
    | [y0, y1, y2, y3, y4, y5, y6, y7], _ =>
      have t0 := hfd 0 _ rfl
      have t1 := hfd 1 _ rfl
      have t2 := hfd 2 _ rfl
      have t3 := hfd 3 _ rfl
      have t4 := hfd 4 _ rfl
      have t5 := hfd 5 _ rfl
      have t6 := hfd 6 _ rfl
      have t7 := hfd 7 _ rfl
      simp [h1, h5, h9] at t0 t1 t2 t3 t4 t5 t6 t7
      obtain ⟨a0, e0, x0, _⟩ := DataW.trod_int Try.underlying3 t0
      obtain ⟨a1, e1, x1, _⟩ := DataW.trod_int Try.underlying3 t1
      obtain ⟨c, e2, x2⟩ := open_five t2
      obtain ⟨a3, e3, x3, _⟩ := DataW.trod_int Try.underlying3 t3
      obtain ⟨a4, e4, x4, _⟩ := DataW.trod_int Try.underlying3 t4
      obtain ⟨s5, e5, x5, _⟩ := DataW.trod_string Try.underlying9 t5
      obtain ⟨a6, e6, x6, _⟩ := DataW.trod_int Try.underlying3 t6
      obtain ⟨s7, e7, x7, _⟩ := DataW.trod_string Try.underlying9 t7
      simp only [List.cons.injEq, and_true] at e0 e1 e2 e3 e4 e5 e6 e7
      obtain ⟨q2, q3, q4, q5, q6⟩ := e2
      subst e0 e1 q2 q3 q4 q5 q6 e3 e4 e5 e6 e7
      refine ⟨⟨a0, a1, c, a3, a4, s5, a6, s7⟩, rfl, ?_⟩
      rw [hx]
      simp [evDat, x0, x1, x2, x3, x4, x5, x6, x7]
set_option maxRecDepth 100000 in
theorem open_ev (hv : Value.okWide Try.prog w r b0 39 v) (h : DataW.Trod enc Try.prog w base spare held 39 v d p) : ∃ x : Ev, v = x.val ∧ d = evDat H x := by
  obtain ⟨⟨cs⟩, rfl, hsz⟩ := okWide_struct Try.underlying39 hv
  obtain ⟨fuel, hf⟩ := h
  obtain ⟨x, hx, hd⟩ := open_ev_cells ((show cs.length = _ from hsz).trans (by kernel_rfl)) hf
  refine ⟨x, ?_, hd⟩
  have e : (⟨cs⟩ : Array Value) = x.cells := Array.toList_inj.1 hx
  rw [e]; rfl
theorem ev_sized {ts : List TypeId} {ds : List (DataW H)} (h : (DataW.weightsEach Try.prog ts ds).all (· ≤ reachBytes) = true) {j : Nat} {x : Ev} (ht : ts[j]? = some 39) (hd : ds[j]? = some (evDat H x)) :
    x.key.size ≤ 140737488351232 ∧ x.v.size ≤ 140737488351232 := by
  have len : ∀ s : ByteArray, s.data.toList.length = s.size := fun s => by rw [Array.length_toList]; rfl
  have h1 := List.all_eq_true.1 h _ (DataW.weights_mem_each ht hd x.key.size (by simp [evDat, DataW.weights, DataW.weightsEach, Try.underlying39, len]))
  have h2 := List.all_eq_true.1 h _ (DataW.weights_mem_each ht hd x.v.size (by simp [evDat, DataW.weights, DataW.weightsEach, Try.underlying39, len]))
  have : reachBytes = 140737488351232 := by decide
  simp only [decide_eq_true_eq, this] at h1 h2
  exact ⟨h1, h2⟩
end
end Go.Proofs.Ytolpfchnfhdhkaa
