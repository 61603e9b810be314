/-
  The drafts of a book in memory: what is kept over a step.
-/
import Derived.Test.YtolpfchnfhdhkaaCtc
namespace Go.Proofs.Ytolpfchnfhdhkaa
open Go.RowKit
set_option maxRecDepth 100000
set_option maxRecDepth 100000

theorem own_same {w w' : World} {B e sz n : Nat} {v : Value} {xs : List Value} (h : w.ownsRow B e sz v n xs) (hs : ∀ g, v.ownBlock = some g → w'.heap[g]? = w.heap[g]?) : w'.ownsRow B e sz v n xs := by
  refine ⟨h.1, ?_⟩
  rcases h.2 with h2 | ⟨g, cap, cur, rfl, hb, hg, r⟩
  · exact .inl h2
  · exact .inr ⟨g, cap, cur, rfl, hb, by rw [hs g rfl]; exact hg, r⟩
/-- What drafts own is as it was. -/
def Keeps (w w' : World) (own : Nat → Option (Nat × Nat)) : Prop := ∀ g, g < w.heap.size → own g ≠ none → w'.heap[g]? = w.heap[g]?
theorem DrW.keep {w w' : World} {B p : Nat} {own own' : Nat → Option (Nat × Nat)} {vs : Nat → Value} {D : Nat → Nat × List Value} (h : DrW w B own p vs D)
    (hk : ∀ g i, g < w.heap.size → own g = some (p, i) → w'.heap[g]? = w.heap[g]?) (ho : ∀ g, g < w.heap.size → own' g = own g) : DrW w' B own' p vs D := by
  have hp := h.k.lt
  refine ⟨?_, by rw [ho p hp]; exact h.o, fun j hj => ⟨own_same (h.r j hj).1 fun g hg => hk g (j + 1) (rw_lt (h.r j hj) hg) ((h.r j hj).2 g hg), fun g hg => by rw [ho g (rw_lt (h.r j hj) hg)]; exact (h.r j hj).2 g hg⟩⟩
  have := h.k
  unfold Blk at *
  rw [hk p 0 hp h.o]; exact this
theorem ModBy.blk' {w w' : World} {own : Nat → Option (Nat × Nat)} {p b : Nat} {cs : Array Value} {t : TypeId} (h : ModBy w w' own p) (hb : Blk w b cs t) (hne : own b = none) : Blk w' b cs t := by
  have := h.block b hb.lt (fun i => by rw [hne]; simp)
  unfold Blk at *; rw [this]; exact hb
theorem nodup_inj {α β : Type} {f : α → β} {L : List α} (h : (L.map f).Nodup) {x y : α} (hx : x ∈ L) (hy : y ∈ L) (e : f x = f y) : x = y := by
  induction L with
  | nil => cases hx
  | cons a L ih =>
    rw [List.map_cons, List.nodup_cons] at h
    rcases List.mem_cons.1 hx with rfl | hx
    · rcases List.mem_cons.1 hy with rfl | hy
      · rfl
      · exact absurd (List.mem_map.2 ⟨_, hy, e.symm⟩) h.1
    · rcases List.mem_cons.1 hy with hy | hy
      · exact absurd (List.mem_map.2 ⟨x, hx, by rw [e, hy]⟩) h.1
      · exact ih h.2 hx hy
theorem ModBy.gm {K : Type} [DecidableEq K] {T : KeyT K} {w w' : World} {own : Nat → Option (Nat × Nat)} {p b : Nat} {ms : List (K × Value)} (h : ModBy w w' own p) (hg : Gm T w b ms) (hn : own b = none) : Gm T w' b ms :=
  hg.of_block (h.block b hg.lt (fun i => by rw [hn]; simp))
theorem ModBy.sgh {w w' : World} {own : Nat → Option (Nat × Nat)} {p b0 b1 : Nat} {es : List Ev} (h : ModBy w w' own p) (hg : Sgh w b0 b1 es) (h0 : own b0 = none) (h1 : own b1 = none) : Sgh w' b0 b1 es := by
  obtain ⟨m0, m1, a, q, c, d⟩ := hg
  exact ⟨m0, m1, h.gm a h0, q, h.gm c h1, d⟩
theorem ModBy.rul {w w' : World} {own : Nat → Option (Nat × Nat)} {p B bm bs b0 b1 : Nat} {es : List Ev} (h : ModBy w w' own p) (hr : Rul w B bm bs b0 b1 es) (hm : own bm = none) (hs : own bs = none) (h0 : own b0 = none) (h1 : own b1 = none) : Rul w' B bm bs b0 b1 es :=
  ⟨h.gm hr.m hm, h.blk' hr.s hs, h.sgh hr.g h0 h1, hr.hm, hr.hs, hr.h0, hr.h1⟩
theorem ModBy.below {w w' : World} {own : Nat → Option (Nat × Nat)} {p B : Nat} (h : ModBy w w' own p) (hl : ∀ g, own g ≠ none → B ≤ g) (hB : B ≤ w.heap.size) : Below B w w' :=
  ⟨h.os, h.tape, h.output, h.size, fun g hg => h.block g (Nat.lt_of_lt_of_le hg hB) (fun i e => by have := hl g (by rw [e]; simp); omega)⟩

def Bk.ptr (p : Nat) : Value := .pointer (some ⟨p, 0, none⟩)
/-- The drafts of the events of pre. -/
structure Dfs (w : World) (B m : Nat) (own : Nat → Option (Nat × Nat)) (L : List (ByteArray × Nat)) (es pre : List Ev) : Prop where
  map : Gm strKey w m (L.map fun x => (x.1, Bk.ptr x.2))
  hm : own m = none
  hB : B ≤ m
  dr : ∀ x ∈ L, ∃ vs, DrW w B own x.2 vs (Bk.drOf es pre x.1)
  keys : (L.map (·.1)).Nodup
  blks : (L.map (·.2)).Nodup
  free : ∀ g, w.heap.size ≤ g → own g = none
  low : ∀ g, own g ≠ none → B ≤ g
/-- Which keys have one. -/
def HasK (L : List (ByteArray × Nat)) (es pre : List Ev) : Prop := ∀ key, key ∈ L.map (·.1) ↔ ∃ x ∈ pre, Bk.cnt es x = true ∧ x.key = key
theorem Dfs.up {w w' : World} {B m : Nat} {own : Nat → Option (Nat × Nat)} {L : List (ByteArray × Nat)} {es pre : List Ev} (h : Dfs w B m own L es pre) (hu : Lex.Up w w') : Dfs w' B m own L es pre :=
  ⟨h.map.up hu, h.hm, h.hB, fun x hx => by obtain ⟨vs, hd⟩ := h.dr x hx; exact ⟨vs, hd.up hu⟩, h.keys, h.blks, fun g hg => h.free g (Nat.le_trans hu.size hg), h.low⟩
theorem Bk.dr_none {es pre : List Ev} {key : ByteArray} (h : ¬ ∃ x ∈ pre, Bk.cnt es x = true ∧ x.key = key) : Bk.drOf es pre key = fun _ => (0, []) := by
  have hf : ∀ k l, pre.filter (Bk.isW es key k l) = [] := fun k l => by
    rw [List.filter_eq_nil_iff]
    intro x hx hw
    rw [Bk.isW_iff] at hw
    exact h ⟨x, hx, hw.1, hw.2.2.1⟩
  funext j
  unfold Bk.drOf Bk.fl Bk.al
  simp only [hf]
  split
  · rfl
  · split <;> rfl
/-- A key's draft, found in the map. -/
theorem get_ptr (L : List (ByteArray × Nat)) (key : ByteArray) :
    (∃ p, (key, p) ∈ L ∧ Gm.get (L.map fun x => (x.1, Bk.ptr x.2)) key = some (Bk.ptr p)) ∨ (key ∉ L.map (·.1) ∧ Gm.get (L.map fun x => (x.1, Bk.ptr x.2)) key = none) := by
  induction L with
  | nil => exact .inr ⟨by simp, rfl⟩
  | cons a L ih =>
    obtain ⟨k, p⟩ := a
    rw [List.map_cons, Gm.get_cons]
    by_cases e : key = k
    · subst e
      exact .inl ⟨p, by simp, by rw [if_pos rfl]⟩
    · rw [if_neg e]
      rcases ih with ⟨q, h1, h2⟩ | ⟨h1, h2⟩
      · exact .inl ⟨q, List.mem_cons_of_mem _ h1, h2⟩
      · exact .inr ⟨by simp [e]; simpa using h1, h2⟩
theorem Dfs.get {w : World} {B m : Nat} {own : Nat → Option (Nat × Nat)} {L : List (ByteArray × Nat)} {es pre : List Ev} (_h : Dfs w B m own L es pre) (key : ByteArray) :
    (∃ p, (key, p) ∈ L ∧ Gm.get (L.map fun x => (x.1, Bk.ptr x.2)) key = some (Bk.ptr p)) ∨ (key ∉ L.map (·.1) ∧ Gm.get (L.map fun x => (x.1, Bk.ptr x.2)) key = none) := get_ptr L key
theorem Gm.put_new {K : Type} [DecidableEq K] {ms : List (K × Value)} {m : K} (h : Gm.get ms m = none) (v : Value) : Gm.put ms m v = ms ++ [(m, v)] := by
  refine Gm.put_none ms m v 0 ?_
  unfold Gm.get at h
  simpa using h
/-- What an event adds to its draft. -/
theorem Dfs.step {w w' : World} {B m p : Nat} {own : Nat → Option (Nat × Nat)} {L : List (ByteArray × Nat)} {es pre : List Ev} (h : Dfs w B m own L es pre) {e : Ev} (hp : (e.key, p) ∈ L) (hc : Bk.cnt es e = true)
    (hq : DrPost w w' B own p (Bk.wr (Bk.drOf es pre e.key) e)) : ∃ own', Dfs w' B m own' L es (pre ++ [e]) ∧ (∀ g, g < w.heap.size → own' g = own g) ∧ ModBy w w' own p := by
  obtain ⟨⟨own', vs', h1, h2⟩, h3⟩ := hq
  have hlow : B ≤ w.heap.size := Nat.le_trans h.hB (Nat.le_of_lt h.map.lt)
  refine ⟨own', ⟨h3.gm h.map h.hm, by rw [h2.old h.map.lt]; exact h.hm, h.hB, fun x hx => ?_, h.keys, h.blks, fun g hg => ?_, fun g hg => ?_⟩, fun g hg => h2.old hg, h3⟩
  · by_cases hk : x.1 = e.key
    · have hxp : x = (e.key, p) := nodup_inj h.keys hx hp hk
      subst hxp
      exact ⟨vs', by rw [Bk.dr_add es pre e hc]; exact h1⟩
    · obtain ⟨vs, hd⟩ := h.dr x hx
      refine ⟨vs, ?_⟩
      rw [Bk.dr_other es pre e x.1 (fun q => hk q.2.symm)]
      have hne : x.2 ≠ p := fun e2 => hk (congrArg (·.1) (nodup_inj h.blks hx hp e2))
      exact hd.keep (fun g i hg hi => h3.block g hg (fun j e3 => by rw [hi] at e3; injection e3 with e3; injection e3 with e4 e5; exact hne e4)) (fun g hg => h2.old hg)
  · rcases h2 g with e1 | ⟨a, b, c⟩
    · rw [e1]; exact h.free g (Nat.le_trans h3.size hg)
    · omega
  · rcases h2 g with e1 | ⟨a, b, c⟩
    · exact h.low g (by rw [← e1]; exact hg)
    · omega
theorem HasK.old {L : List (ByteArray × Nat)} {es pre : List Ev} (h : HasK L es pre) {e : Ev} (hk : Bk.cnt es e = true → e.key ∈ L.map (·.1)) : HasK L es (pre ++ [e]) := fun key => by
  rw [h]
  constructor
  · rintro ⟨x, hx, q⟩; exact ⟨x, by simp [hx], q⟩
  · rintro ⟨x, hx, q⟩
    rw [List.mem_append, List.mem_singleton] at hx
    rcases hx with hx | rfl
    · exact ⟨x, hx, q⟩
    · obtain ⟨y, hy, q2⟩ := (h _).1 (hk q.1)
      exact ⟨y, hy, q2.1, q2.2.trans q.2⟩
theorem HasK.new {L : List (ByteArray × Nat)} {es pre : List Ev} (h : HasK L es pre) {e : Ev} (hc : Bk.cnt es e = true) (p : Nat) : HasK (L ++ [(e.key, p)]) es (pre ++ [e]) := fun key => by
  rw [List.map_append, List.mem_append, h]
  constructor
  · rintro (⟨x, hx, q⟩ | q)
    · exact ⟨x, by simp [hx], q⟩
    · simp at q; exact ⟨e, by simp, hc, q.symm⟩
  · rintro ⟨x, hx, q⟩
    rw [List.mem_append, List.mem_singleton] at hx
    rcases hx with hx | rfl
    · exact .inl ⟨x, hx, q⟩
    · exact .inr (by simp [q.2])
/-- An event that doesn't count. -/
theorem Dfs.skip {w : World} {B m : Nat} {own : Nat → Option (Nat × Nat)} {L : List (ByteArray × Nat)} {es pre : List Ev} (h : Dfs w B m own L es pre) {e : Ev} (hc : Bk.cnt es e = false) : Dfs w B m own L es (pre ++ [e]) :=
  ⟨h.map, h.hm, h.hB, fun x hx => by rw [Bk.dr_other es pre e x.1 (fun q => by rw [hc] at q; cases q.1)]; exact h.dr x hx, h.keys, h.blks, h.free, h.low⟩
def Bk.nil6 : Array Value := #[.slice none 0 0, .slice none 0 0, .slice none 0 0, .slice none 0 0, .slice none 0 0, .slice none 0 0]
/-- A new draft. -/
theorem Dfs.add {w w2 : World} {B m : Nat} {own : Nat → Option (Nat × Nat)} {L : List (ByteArray × Nat)} {es pre : List Ev} (h : Dfs w B m own L es pre) (hh : HasK L es pre) {key : ByteArray} (hk : key ∉ L.map (·.1))
    (hm : Gm strKey w2 m ((L ++ [(key, w.heap.size)]).map fun x => (x.1, Bk.ptr x.2)))
    (hb : (w.alloc (.cells Bk.nil6 102)).grownBy w2 (some m)) :
    ∃ own', Dfs w2 B m own' (L ++ [(key, w.heap.size)]) es pre ∧ (∀ g, g < w.heap.size → own' g = own g) ∧ w.grownBy w2 (some m) := by
  have hlt := h.map.lt
  have ha : w.grownBy (w.alloc (.cells Bk.nil6 102)) (some m) := by_up ((Below.refl _ _).alloc (Nat.le_refl _) _) _
  have hg := by_trans ha hb
  have ho : ∀ g, g < w.heap.size → (fun g => if g = w.heap.size then some (w.heap.size, 0) else own g) g = own g := fun g hg => by
    show (if g = w.heap.size then some (w.heap.size, 0) else own g) = own g
    rw [if_neg (by omega)]
  have hbl : ∀ x ∈ L, x.2 < w.heap.size := fun x hx => by obtain ⟨vs, hd⟩ := h.dr x hx; exact hd.k.lt
  have hz : w.heap.size < w2.heap.size := Nat.lt_of_lt_of_le (by simp) hb.size
  refine ⟨fun g => if g = w.heap.size then some (w.heap.size, 0) else own g, ⟨hm, (ho m hlt).trans h.hm, h.hB, fun x hx => ?_, ?_, ?_, fun g hg2 => ?_, fun g hg2 => ?_⟩, ho, hg⟩
  · rw [List.mem_append, List.mem_singleton] at hx
    rcases hx with hx | rfl
    · obtain ⟨vs, hd⟩ := h.dr x hx
      exact ⟨vs, hd.keep (fun g i hg1 hi => hg.block g hg1 (fun e => by injection e with e; subst e; rw [h.hm] at hi; cases hi)) ho⟩
    · refine ⟨fun _ => .slice none 0 0, ?_, ?_, fun j hj => ⟨?_, fun g hg1 => by cases hg1⟩⟩
      · have := (Blk.new w Bk.nil6 102).grown hb (fun e => by injection e with e; omega)
        exact this
      · show (if w.heap.size = w.heap.size then some (w.heap.size, 0) else own w.heap.size) = _
        rw [if_pos rfl]
      · rw [Bk.dr_none (fun q => hk ((hh key).2 q))]
        exact World.ownsRow_nil _ _ _ _
  · rw [List.map_append, List.nodup_append]
    refine ⟨h.keys, by simp, fun a ha b hb => ?_⟩
    simp at hb
    subst hb
    exact fun e => hk (e ▸ ha)
  · rw [List.map_append, List.nodup_append]
    refine ⟨h.blks, by simp, fun a ha b hb => ?_⟩
    simp at hb
    subst hb
    obtain ⟨x, hx, rfl⟩ := List.mem_map.1 ha
    have := hbl x hx
    omega
  · show (if g = w.heap.size then some (w.heap.size, 0) else own g) = none
    rw [if_neg (by omega)]
    exact h.free g (by omega)
  · by_cases e : g = w.heap.size
    · have := h.hB; omega
    · refine h.low g ?_
      intro q
      apply hg2
      show (if g = w.heap.size then some (w.heap.size, 0) else own g) = none
      rw [if_neg e]; exact q
end Go.Proofs.Ytolpfchnfhdhkaa
