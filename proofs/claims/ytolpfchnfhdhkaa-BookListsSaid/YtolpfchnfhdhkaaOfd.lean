/-
  A book in memory: its contacts, and their sets.
-/
import Derived.Test.YtolpfchnfhdhkaaOfb
import Derived.Test.YtolpfchnfhdhkaaKys
namespace Go.Proofs.Ytolpfchnfhdhkaa
open Go.RowKit
set_option maxRecDepth 100000
set_option maxRecDepth 100000

theorem elemCt : Elem Try.prog 40 51 (.agg (Bk.ctc ⟨#[]⟩ (fun _ => false) (fun _ => ⟨#[]⟩) (fun _ => .slice none 0 0))) 7 104 := ⟨Try.underlying40, by kernel_rfl, rfl, by decide⟩
namespace Bk
def key (ks : List ByteArray) (i : Nat) : ByteArray := ks.getD i ⟨#[]⟩
/-- The cells of a key's contact, its sets being these values. -/
def ctk (es : List Ev) (k : ByteArray) (us : Nat → Value) : List Value := (ctc k (fun l => has (fl es es k l)) (fun l => field (fl es es k l)) us).toList
def ctks (es : List Ev) (ks : List ByteArray) (us : Nat → Nat → Value) (n : Nat) : List Value := (List.range n).flatMap fun i => ctk es (key ks i) (us i)
theorem ctks_succ (es : List Ev) (ks : List ByteArray) (us : Nat → Nat → Value) (n : Nat) : ctks es ks us (n + 1) = ctks es ks us n ++ ctk es (key ks n) (us n) := by
  simp [ctks, List.range_succ]
theorem ctks_upd (es : List Ev) (ks : List ByteArray) (us : Nat → Nat → Value) (n : Nat) (u : Nat → Value) : ctks es ks (Dr.upd us n u) n = ctks es ks us n := by
  unfold ctks
  rw [List.flatMap_def, List.flatMap_def]
  congr 1
  apply List.map_congr_left
  intro i hi
  have : i < n := by simpa using hi
  unfold Dr.upd
  rw [if_neg (by omega)]
end Bk
/-- What the second loop of Of holds: S: where the keys' row may begin; T: where the book's. -/
structure Of2 (wr : World) (es : List Ev) (ks : List ByteArray) (own : Nat → Option (Nat × Nat)) (L : List (ByteArray × Nat)) (s T : Nat) (us : Nat → Nat → Value) (j : Nat) (v : Value) : Prop where
  map : Gm strKey wr s (L.map fun x => (x.1, Bk.ptr x.2))
  dr : ∀ i, j ≤ i → i < ks.length → ∀ p, (Bk.key ks i, p) ∈ L → ∃ vs, DrW wr s own p vs (Bk.drOf es es (Bk.key ks i))
  row : wr.ownsRow T 51 7 v j (Bk.ctks es ks us j)
  sets : ∀ i, i < j → ∀ l, l < 2 → ∃ ob p, SetAt wr (us i l) ob (Bk.set (Bk.al es es (Bk.key ks i) l)) ∧ (Bk.key ks i, p) ∈ L ∧ ∀ g, ob = some g → own g = some (p, 4 + l + 1)
  hT : T ≤ wr.heap.size
theorem SetAt.same {w w' : World} {u : Value} {ob : Option Nat} {xs : List ByteArray} (h : SetAt w u ob xs) (hs : ∀ g, ob = some g → g < w.heap.size → w'.heap[g]? = w.heap[g]?) (hz : w.heap.size ≤ w'.heap.size) : SetAt w' u ob xs := by
  obtain ⟨A, cap, e, ⟨hl, hc, hm, hcell⟩, ht⟩ := h
  refine ⟨A, cap, e, ⟨hl, hc, hm, fun h0 => ?_⟩, ht⟩
  obtain ⟨b, off, e2, hbl, hcl⟩ := hcell h0
  refine ⟨b, off, e2, Nat.lt_of_lt_of_le hbl hz, fun j u hu => ?_⟩
  rw [World.cell?_of_block (hs b (ht _ e2) hbl)]
  exact hcl j u hu
theorem Of2.step {wr w6 w8 : World} {es : List Ev} {ks : List ByteArray} {own : Nat → Option (Nat × Nat)} {L : List (ByteArray × Nat)} {s T j p : Nat} {us : Nat → Nat → Value} {v v8 : Value} {u : Nat → Value} {vs : Nat → Value} {o : Obj}
    (h : Of2 wr es ks own L s T us j v) (hp : (Bk.key ks j, p) ∈ L) (hm : ModBy wr w6 own p) (hsets : ∀ l, l < 2 → SetAt w6 (u l) (vs (4 + l)).ownBlock (Bk.set (Bk.al es es (Bk.key ks j) l)))
    (htag : ∀ l, l < 2 → ∀ g, (vs (4 + l)).ownBlock = some g → own g = some (p, 4 + l + 1)) (hrow : w8.ownsRow T 51 7 v8 (j + 1) (Bk.ctks es ks us j ++ Bk.ctk es (Bk.key ks j) u)) (hg : (w6.alloc o).grownBy w8 v.ownBlock)
    (hfree : ∀ g, T ≤ g → own g = none) (hs : own s = none) (hsT : s < T) (hb : (L.map (·.2)).Nodup) (hk : ∀ i, i < ks.length → i ≠ j → Bk.key ks i ≠ Bk.key ks j) (hjl : j < ks.length) :
    Of2 w8 es ks own L s T (Dr.upd us j u) (j + 1) v8 := by
  have hv : ∀ g, v.ownBlock = some g → T ≤ g := fun g hg => (h.row.lt g hg).1
  have ha : Lex.Up w6 (w6.alloc o) := (Below.refl _ _).alloc (Nat.le_refl _) _
  have same : ∀ g, g < wr.heap.size → g < T → (∀ i, own g ≠ some (p, i)) → w8.heap[g]? = wr.heap[g]? := fun g h1 h2 h3 => by
    rw [hg.block g (Nat.lt_of_lt_of_le (Nat.lt_of_lt_of_le h1 hm.size) ha.size) (fun e => by have := hv g e.symm; omega), ha.block g (Nat.lt_of_lt_of_le h1 hm.size)]
    exact hm.block g h1 h3
  have same6 : ∀ g, g < w6.heap.size → g < T → w8.heap[g]? = w6.heap[g]? := fun g h1 h2 => by
    rw [hg.block g (Nat.lt_of_lt_of_le h1 ha.size) (fun e => by have := hv g e.symm; omega), ha.block g h1]
  have lowT : ∀ g, own g ≠ none → g < T := fun g hg => by
    rcases Nat.lt_or_ge g T with h1 | h1
    · exact h1
    · exact absurd (hfree g h1) hg
  have other : ∀ i q, i < ks.length → i ≠ j → (Bk.key ks i, q) ∈ L → q ≠ p := fun i q hi hij hq e => hk i hi hij (congrArg (·.1) (nodup_inj hb hq hp e))
  refine ⟨?_, fun i hi hil q hq => ?_, ?_, fun i hi l hl => ?_, Nat.le_trans h.hT (Nat.le_trans hm.size (Nat.le_trans ha.size hg.size))⟩
  · exact h.map.of_block (same s h.map.lt hsT (fun i => by rw [hs]; simp))
  · obtain ⟨vs', hd⟩ := h.dr i (by omega) hil q hq
    have hne := other i q hil (by omega) hq
    exact ⟨vs', hd.keep (fun g i hg1 hi1 => same g hg1 (lowT g (by rw [hi1]; simp)) (fun i2 e => by rw [hi1] at e; injection e with e; injection e with e1 e2; exact hne e1)) (fun g _ => rfl)⟩
  · rw [Bk.ctks_succ, Bk.ctks_upd, show Dr.upd us j u j = u by unfold Dr.upd; rw [if_pos rfl]]
    exact hrow
  · by_cases e : i = j
    · subst e
      rw [show Dr.upd us i u i = u by unfold Dr.upd; rw [if_pos rfl]]
      exact ⟨_, p, (hsets l hl).same (fun g hg1 hg2 => same6 g hg2 (lowT g (by rw [htag l hl g hg1]; simp))) (Nat.le_trans ha.size hg.size), hp, htag l hl⟩
    · rw [show Dr.upd us j u i = us i by unfold Dr.upd; rw [if_neg e]]
      obtain ⟨ob, q, hs1, hq, ht⟩ := h.sets i (by omega) l hl
      have hne := other i q (by omega) e hq
      exact ⟨ob, q, hs1.same (fun g hg1 hg2 => same g hg2 (lowT g (by rw [ht g hg1]; simp)) (fun i2 e => by rw [ht g hg1] at e; injection e with e; injection e with e1 e2; exact hne e1)) (Nat.le_trans hm.size (Nat.le_trans ha.size hg.size)), hq, ht⟩
theorem Of2.keep_sl {wr w6 w8 : World} {es : List Ev} {ks : List ByteArray} {own : Nat → Option (Nat × Nat)} {L : List (ByteArray × Nat)} {s T j p : Nat} {us : Nat → Nat → Value} {v : Value} {o : Obj} {A : Option Addr} {n cap : Nat} {cs : List Value}
    (h : Of2 wr es ks own L s T us j v) (hm : ModBy wr w6 own p) (hg : (w6.alloc o).grownBy w8 v.ownBlock) (hs : Sl wr 1 A n cap cs) (hA : ∀ a, A = some a → own a.block = none ∧ a.block < T) : Sl w8 1 A n cap cs := by
  have hv : ∀ g, v.ownBlock = some g → T ≤ g := fun g hg => (h.row.lt g hg).1
  have ha : Lex.Up w6 (w6.alloc o) := (Below.refl _ _).alloc (Nat.le_refl _) _
  obtain ⟨hl, hc, hm2, hcell⟩ := hs
  refine ⟨hl, hc, hm2, fun h0 => ?_⟩
  obtain ⟨b, off, e2, hbl, hcl⟩ := hcell h0
  obtain ⟨h1, h2⟩ := hA _ e2
  refine ⟨b, off, e2, Nat.lt_of_lt_of_le hbl (Nat.le_trans hm.size (Nat.le_trans ha.size hg.size)), fun j u hu => ?_⟩
  have : w8.heap[b]? = wr.heap[b]? := by
    rw [hg.block b (Nat.lt_of_lt_of_le (Nat.lt_of_lt_of_le hbl hm.size) ha.size) (fun e => by have := hv b e.symm; simp at h2; omega), ha.block b (Nat.lt_of_lt_of_le hbl hm.size)]
    exact hm.block b hbl (fun i => by rw [h1]; simp)
  rw [World.cell?_of_block this]
  exact hcl j u hu
theorem Of2.below {wr w6 w8 : World} {es : List Ev} {ks : List ByteArray} {own : Nat → Option (Nat × Nat)} {L : List (ByteArray × Nat)} {s T j p : Nat} {us : Nat → Nat → Value} {v : Value} {o : Obj}
    (h : Of2 wr es ks own L s T us j v) (hm : ModBy wr w6 own p) (hg : (w6.alloc o).grownBy w8 v.ownBlock) (hlow : ∀ g, own g ≠ none → s ≤ g) (hsT : s ≤ T) : Below s wr w8 := by
  have hv : ∀ g, v.ownBlock = some g → T ≤ g := fun g hg => (h.row.lt g hg).1
  have hs : s ≤ wr.heap.size := Nat.le_of_lt h.map.lt
  have h1 : Below s wr w6 := hm.below hlow hs
  exact Below.grown (h1.alloc (Nat.le_trans hs h1.size) o) hg (by have := h1.size; simp; omega) (fun q hq => by have := hv q hq; omega)
def OfRel2 (es : List Ev) (ks : List ByteArray) (own : Nat → Option (Nat × Nat)) (L : List (ByteArray × Nat)) (s T : Nat) (As : Option Addr) (ns caps : Nat) (W : World) (v9 v : Value) (wr : World) : Prop :=
  ∃ (j : Nat) (us : Nat → Nat → Value), j ≤ ks.length ∧ v = .int .i64 j ∧ Hid (Of2 wr es ks own L s T us j v9) ∧ Hid (Sl wr 1 As ns caps (Bk.strV ks)) ∧ Hid (Below s W wr)
theorem oneCell_ctk {es : List Ev} {k : ByteArray} {u : Nat → Value} (h0 : ∃ A n c, u 0 = .slice A n c) (h1 : ∃ A n c, u 1 = .slice A n c) : ∀ x ∈ Bk.ctk es k u, x.oneCell' = true := by
  obtain ⟨A, n, c, e0⟩ := h0
  obtain ⟨A1, n1, c1, e1⟩ := h1
  intro x hx
  simp [Bk.ctk, Bk.ctc, e0, e1] at hx
  rcases hx with rfl | rfl | rfl | rfl | rfl | rfl | rfl <;> rfl
/-- What Of hands back. -/
def BookAt (w : World) (es : List Ev) (ks : List ByteArray) (v : Value) : Prop :=
  ∃ A cap us, v = .slice A ks.length cap ∧ Sl w 7 A ks.length cap (Bk.ctks es ks us ks.length) ∧ ∀ i, i < ks.length → ∀ l, l < 2 → ∃ ob, SetAt w (us i l) ob (Bk.set (Bk.al es es (Bk.key ks i) l))
theorem Bk.sortS_perm (xs : List ByteArray) : (Bk.sortS xs).Perm xs := by
  have h := (List.mergeSort_perm (xs.map Bk.oct) (fun x y => decide (x ≤ y))).map Bk.toStr
  rw [List.map_map] at h
  have e : xs.map (Bk.toStr ∘ Bk.oct) = xs := by
    have : xs.map (Bk.toStr ∘ Bk.oct) = xs.map id := List.map_congr_left fun s _ => Bk.toStr_oct s
    rw [this, List.map_id]
  rw [e] at h
  exact h
theorem Bk.key_mem {ks : List ByteArray} {i : Nat} (h : i < ks.length) : Bk.key ks i ∈ ks := by
  unfold Bk.key
  rw [List.getD, List.getElem?_eq_getElem h]
  exact List.getElem_mem _
theorem Bk.key_inj {ks : List ByteArray} (hn : ks.Nodup) {i j : Nat} (hi : i < ks.length) (hj : j < ks.length) (h : i ≠ j) : Bk.key ks i ≠ Bk.key ks j := by
  unfold Bk.key
  rw [List.getD, List.getD, List.getElem?_eq_getElem hi, List.getElem?_eq_getElem hj]
  intro e
  exact h ((List.getElem_inj hn).1 e)
theorem Bk.drOf_at (es : List Ev) (key : ByteArray) : ∀ l, l < 2 → Bk.drOf es es key l = Bk.strs (Bk.fl es es key l) ∧ Bk.drOf es es key (2 + l) = Bk.stps (Bk.fl es es key l) ∧ Bk.drOf es es key (4 + l) = Bk.strs (Bk.al es es key l) := fun _ hl => ⟨Bk.drv0 _ _ _ hl, Bk.drv2 _ _ _ hl, Bk.drv4 _ _ _ _⟩
end Go.Proofs.Ytolpfchnfhdhkaa
