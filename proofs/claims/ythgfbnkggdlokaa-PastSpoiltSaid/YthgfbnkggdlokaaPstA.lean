/-
  past, plain: what is kept of a list by marks, how high one more is; the walks of markOf, keyed, Height, and of the reference's Height.
-/
import Derived.Test.YthgfbnkggdlokaaMap
import Derived.Test.YthgfbnkggdlokaaEvSl
import Derived.Test.YthgfbnkggdlokaaEvE
import Derived.Test.YthgfbnkggdlokaaClkH
import Derived.Test.YthgfbnkggdlokaaEvP
import Derived.Deep.RegionLaw
import Derived.Deep.DeepCutAuto
namespace Go.Proofs.Ythgfbnkggdlokaa
open Go.RowKit
set_option maxRecDepth 100000
set_option maxRecDepth 100000

theorem ESe : Elem Try.prog 24 51 Ev.zero.val 12 112 := ⟨Try.underlying24, by kernel_rfl, rfl, by decide⟩
/-- What is there of each mark, in the order in which the marks came first. -/
def Al.put {α : Type} : List (Mk × α) → Mk → α → List (Mk × α)
  | [], m, v => [(m, v)]
  | (k, x) :: l, m, v => if m = k then (m, v) :: l else (k, x) :: Al.put l m v
def Al.get {α : Type} : List (Mk × α) → Mk → Option α
  | [], _ => none
  | (k, x) :: l, m => if m = k then some x else Al.get l m
def Al.enc {α : Type} (f : α → Value) (l : List (Mk × α)) : List (Mk × Value) := l.map fun p => (p.1, f p.2)
theorem Al.enc_put {α : Type} (f : α → Value) (l : List (Mk × α)) (m : Mk) (v : α) : Mm.put (Al.enc f l) m (f v) = Al.enc f (Al.put l m v) := by
  induction l with
  | nil => rfl
  | cons p l ih =>
    obtain ⟨k, x⟩ := p
    simp only [Al.enc, List.map_cons, Mm.put, Al.put] at *
    split
    · simp
    · simp [ih]
theorem Al.enc_get {α : Type} (f : α → Value) (l : List (Mk × α)) (m : Mk) : Mm.get (Al.enc f l) m = (Al.get l m).map f := by
  induction l with
  | nil => rfl
  | cons p l ih =>
    obtain ⟨k, x⟩ := p
    simp only [Al.enc, List.map_cons] at *
    rw [Mm.get_cons, Al.get]
    split
    · rfl
    · exact ih
theorem Al.get_put {α : Type} (l : List (Mk × α)) (m k : Mk) (v : α) : Al.get (Al.put l m v) k = if k = m then some v else Al.get l k := by
  induction l with
  | nil => simp [Al.put, Al.get]
  | cons p l ih =>
    obtain ⟨a, x⟩ := p
    rw [Al.put]
    split
    · rename_i h
      subst h
      rw [Al.get, Al.get]
      split <;> rfl
    · rename_i h
      rw [Al.get, ih, Al.get]
      by_cases h1 : k = a
      · subst h1
        rw [if_pos rfl, if_pos rfl, if_neg (fun e => h e.symm)]
      · rw [if_neg h1, if_neg h1]
theorem Al.put_length {α : Type} (l : List (Mk × α)) (m : Mk) (v : α) : (Al.put l m v).length = l.length + if (Al.get l m).isSome then 0 else 1 := by
  induction l with
  | nil => rfl
  | cons p l ih =>
    obtain ⟨a, x⟩ := p
    rw [Al.put, Al.get]
    split
    · simp
    · rw [List.length_cons, List.length_cons, ih]; omega

namespace Pst
def keyed : List (Mk × Ev) → List Ev → List (Mk × Ev)
  | qs, [] => qs
  | qs, e :: es => keyed (Al.put qs e.mk' e) es
theorem keyed_snoc (qs : List (Mk × Ev)) (es : List Ev) (e : Ev) : keyed qs (es ++ [e]) = Al.put (keyed qs es) e.mk' e := by
  induction es generalizing qs with
  | nil => rfl
  | cons x es ih => exact ih _
theorem keyed_take {es : List Ev} {k : Nat} (h : k < es.length) : keyed [] (es.take (k + 1)) = Al.put (keyed [] (es.take k)) (Ev.nth es k).mk' (Ev.nth es k) := by
  rw [List.take_succ_eq_append_getElem h, keyed_snoc]
  simp [Ev.nth, h]
/-- The greatest height of those whose marks a clock has, and whether there is any. -/
def topS (c : Ck) : Int × Bool → List Ev → Int × Bool
  | s, [] => s
  | s, e :: es => topS c (if Ck.has c e.r e.n = true ∧ (s.2 = false ∨ s.1 < e.h) then (e.h, true) else s) es
theorem topS_snoc (c : Ck) (s : Int × Bool) (es : List Ev) (e : Ev) : topS c s (es ++ [e]) = if Ck.has c e.r e.n = true ∧ ((topS c s es).2 = false ∨ (topS c s es).1 < e.h) then (e.h, true) else topS c s es := by
  induction es generalizing s with
  | nil => rfl
  | cons x es ih => exact ih _
theorem topS_take (c : Ck) {es : List Ev} {k : Nat} (h : k < es.length) : topS c (0, false) (es.take (k + 1)) = if Ck.has c (Ev.nth es k).r (Ev.nth es k).n = true ∧ ((topS c (0, false) (es.take k)).2 = false ∨ (topS c (0, false) (es.take k)).1 < (Ev.nth es k).h) then ((Ev.nth es k).h, true) else topS c (0, false) (es.take k) := by
  rw [List.take_succ_eq_append_getElem h, topS_snoc]
  simp [Ev.nth, h]
def hgt (es : List Ev) (c : Ck) : Int := wrap64 ((topS c (0, false) es).1 + 1)
end Pst

theorem Blk.ev12 {w : World} {b : Nat} {e : Ev} {t : TypeId} (h : Blk w b e.cells t) : w.cell? ⟨b, 0, none⟩ = some (.int .i64 e.r) ∧ w.cell? ⟨b, 1, none⟩ = some (.int .i64 e.n) ∧ w.cell? ⟨b, 2, none⟩ = some (.int .i64 e.c.c0) ∧
    w.cell? ⟨b, 3, none⟩ = some (.int .i64 e.c.c1) ∧ w.cell? ⟨b, 4, none⟩ = some (.int .i64 e.c.c2) ∧ w.cell? ⟨b, 5, none⟩ = some (.int .i64 e.c.c3) ∧ w.cell? ⟨b, 6, none⟩ = some (.int .i64 e.c.c4) ∧ w.cell? ⟨b, 7, none⟩ = some (.int .i64 e.h) ∧
    w.cell? ⟨b, 8, none⟩ = some (.int .i64 e.k) ∧ w.cell? ⟨b, 9, none⟩ = some (.string e.key) ∧ w.cell? ⟨b, 10, none⟩ = some (.int .i64 e.l) ∧ w.cell? ⟨b, 11, none⟩ = some (.string e.v) :=
  ⟨h.cell rfl, h.cell rfl, h.cell rfl, h.cell rfl, h.cell rfl, h.cell rfl, h.cell rfl, h.cell rfl, h.cell rfl, h.cell rfl, h.cell rfl, h.cell rfl⟩
/-- The walk of markOf. -/
theorem markOf_any (e : Ev) (w : World) : Calls Try.prog 53 #[e.val] w fun x w' => x = .returned e.mk'.val ∧ Lex.Up w w' := by
  have KA := Lib.hid ((Blk.new w e.cells 51).alloc (.cells #[.int .i64 0, .int .i64 0] 81))
  have KB := Lib.hid (Blk.new (w.alloc (.cells e.cells 51)) #[.int .i64 0, .int .i64 0] 81)
  have U0 := Lib.hid (show Below w.heap.size w ((w.alloc (.cells e.cells 51)).alloc (.cells #[.int .i64 0, .int .i64 0] 81)) from ((Below.refl w.heap.size w).alloc (Nat.le_refl _) _).alloc (by simp) _)
  obtain ⟨W, hW⟩ : ∃ W, W = (w.alloc (.cells e.cells 51)).alloc (.cells #[.int .i64 0, .int .i64 0] 81) := ⟨_, rfl⟩
  rw [← hW] at KA KB U0
  simp only [World.size_alloc] at KB
  obtain ⟨a0, a1⟩ := KA.out.rn
  have f0 := KB.out.frozen 0; have f1 := KB.out.frozen 1
  have e0 : W.cell? ⟨w.heap.size + 1, 0, none⟩ = some (.int .i64 0) := KB.out.cell rfl
  have e1 : W.cell? ⟨w.heap.size + 1, 1, none⟩ = some (.int .i64 0) := KB.out.cell rfl
  unfold Ev.val
  go_enter Try.func53, Try.ntmps53
  go_upto_region 1 with (fail)
  refine wp_named (fun W2 hW2 => ?_)
  obtain rfl : W2 = W := by rw [hW2, hW]; rfl
  clear hW hW2
  go_wp2
  have K := KB.out.set2 (.int .i64 e.r) (.int .i64 e.n)
  have B := (U0.out.setCell (p := ⟨w.heap.size + 1, 0, none⟩) (by simp) (.int .i64 e.r)).setCell (p := ⟨w.heap.size + 1, 1, none⟩) (by simp) (.int .i64 e.n)
  generalize World.setCell _ ⟨w.heap.size + 1, 1, none⟩ (.int .i64 e.n) = W3 at *
  have k0 := K.cell (j := 0) rfl
  have k1 := K.cell (j := 1) rfl
  exact bodyPost_ret (v := e.mk'.val) (by simp [results, Try.results53, go_sem, Mk.val, Ev.mk', k0, k1]) rfl ⟨rfl, B⟩

def KeyRel (es : List Ev) (b : Nat) (W : World) (v : Value) (wr : World) : Prop :=
  ∃ k : Nat, k ≤ es.length ∧ v = .int .i64 k ∧ Mm wr b (Al.enc Ev.val (Pst.keyed [] (es.take k))) ∧ Below b W wr
theorem run_makeMap_hint (t k e : TypeId) (ht : Try.prog.underlying t = some (.map k e)) (n : Int) (w : World) : (Instr.makeMap t (some (.int .i64 n))).run Try.prog w = .ok (.map (some w.heap.size)) (w.alloc (.map #[] 0)) := by
  simp [Instr.makeMap, run_underlying ht, asInt, Result.andThen, go_sem]

set_option maxHeartbeats 1600000 in
theorem keyed_any (es : List Ev) (A : Option Addr) (n cap : Nat) (w : World) (h : EvSl w A n cap es) :
    Calls Try.prog 52 #[.slice A n cap, .func (.func 53) #[] #[]] w fun x w' => ∃ b, x = .returned (.map (some b)) ∧ Mm w' b (Al.enc Ev.val (Pst.keyed [] es)) ∧ Lex.Up w w' := by
  have hmm := run_makeMap_hint 78 81 51 Try.underlying78
  have CM := Lib.hid (fun e w => markOf_any e w)
  have SL := Lib.hid (fun w' (hu : Lex.Up w w') => EvSl.up h hu)
  have AD := Lib.hid h.addr
  have hl := h.len
  have hlim := h.lim
  have HE := Lib.hid (show es.take n = es by rw [← hl, List.take_length])
  have HL := Lib.hid hl
  unfold Ev.val at CM
  clear h hl
  have M0 := Lib.hid (Mm.new w)
  have U0 := Lib.hid (show Below w.heap.size w (w.alloc (.map #[] 0)) from (Below.refl _ _).alloc (Nat.le_refl _) _)
  go_enter Try.func52, Try.ntmps52
  go_wp2
  go_loopw [13] (fun v wr => KeyRel es w.heap.size w v wr) (fun v _ => n - (intOf v).toNat)
  case atStart => exact ⟨0, by omega, rfl, M0.out, U0.out⟩
  case round =>
    obtain ⟨k, hk, rfl, hm, hb⟩ := hrel
    rw [HL.out] at hk
    have MR := Lib.hid hm
    have UR := Lib.hid hb
    have hlb := hm.lt
    clear hm hb M0 U0 hmm
    by_cases h5 : k < n
    · have h5' : (k : Int) < n := by omega
      obtain ⟨b, off, rfl⟩ := AD.out (by omega)
      obtain ⟨e0, e1, e2, e3, e4, e5, e6, e7, e8, e9, e10, e11⟩ := ev_at (SL.out wr UR.out) h5
      have KT := Lib.hid (Pst.keyed_take (es := es) (k := k) (by rw [HL.out]; exact h5))
      generalize hg : Ev.nth es k = e at e0 e1 e2 e3 e4 e5 e6 e7 e8 e9 e10 e11 KT
      clear hg
      have CE := Lib.hid (fun w => CM.out e w)
      go_upto_region 5 with (fail)
      refine wp_named (fun W hW => ?_)
      have KA := Lib.hid (show Blk W wr.heap.size e.cells 51 by rw [hW]; exact Blk.new wr e.cells 51)
      have MW := Lib.hid (show Mm W w.heap.size (Al.enc Ev.val (Pst.keyed [] (es.take k))) by rw [hW]; exact MR.out.alloc _)
      have UW := Lib.hid (show Below w.heap.size w W by rw [hW]; exact UR.out.alloc (Nat.le_of_lt hlb) _)
      clear hW MR UR CM e0 e1 e2 e3 e4 e5 e6 e7 e8 e9 e10 e11
      obtain ⟨a0, a1, a2, a3, a4, a5, a6, a7, a8, a9, a10, a11⟩ := KA.out.ev12
      have ltA := KA.out.lt
      go_region_law (first
          | (refine step_callx (by rfl) (CE.out _) (by go_simp) ?_
             rintro x w2 ⟨rfl, hu⟩
             refine ⟨_, rfl, ?_⟩
             have hu' := (Lex.Up.drew W).trans hu
             obtain ⟨c0, c1, c2, c3, c4, c5, c6, c7, c8, c9, c10, c11⟩ := (KA.out.up hu').ev12
             obtain ⟨w3, hs, hm3, hg3⟩ := Mm.store 78 51 Try.underlying78 (MW.out.up hu') e.mk' e.val
             have R1 := Lib.hid (show Mm w3 w.heap.size (Al.enc Ev.val (Pst.keyed [] (es.take (k + 1)))) by rw [KT.out, ← Al.enc_put]; exact hm3)
             have R2 := Lib.hid (show Below w.heap.size w w3 from Below.grown (UW.out.trans (hu'.mono UW.out.size)) hg3 (UW.out.trans (hu'.mono UW.out.size)).size (fun q hq => by cases hq; exact Nat.le_refl _))
             unfold Ev.val at hs
             clear hu hu' hm3 hg3))
      all_goals
        go_wp2
        go_roundw
        case rel => exact ⟨k + 1, by rw [HL.out]; omega, by go_num, R1.out, R2.out⟩
        case measure => simp [intOf]; omega
    · obtain rfl : k = n := by omega
      have R1 := Lib.hid (show Mm wr w.heap.size (Al.enc Ev.val (Pst.keyed [] es)) by have := MR.out; rwa [HE.out] at this)
      clear MR CM
      go_wp2
      go_ret
      exact ⟨w.heap.size, rfl, R1.out, UR.out⟩
end Go.Proofs.Ythgfbnkggdlokaa
