/-
  What is taken is what was put: plain.
-/
import Derived.Test.YthgfbnkggdlokaaEvC
import Derived.Test.YthgfbnkggdlokaaMath
namespace Go.Proofs.Ythgfbnkggdlokaa
open Go.RowKit
set_option maxRecDepth 100000

def Bts (xs : List Nat) : Prop := ∀ x ∈ xs, x < 256
theorem Bts.drop {xs : List Nat} (h : Bts xs) (u : Nat) : Bts (xs.drop u) := fun x hx => h x (List.mem_of_mem_drop hx)
theorem Bts.nth {xs : List Nat} (h : Bts xs) (j : Nat) : Pl.nth xs j < 256 := by
  unfold Pl.nth
  rw [List.getD_eq_getElem?_getD]
  by_cases hj : j < xs.length
  · rw [List.getElem?_eq_getElem hj]; exact h _ (List.getElem_mem hj)
  · rw [List.getElem?_eq_none (by omega)]; simp
namespace Pl
theorem take_cut {n m : Nat} (hn : n < 18446744073709551616) (hm : m < (put n).length) : take ((put n).take m) = (0, 0, 2) := by
  obtain ⟨a, b, c, d, e⟩ := form_at _ (form_put hn)
  obtain ⟨f, g⟩ := form_len hn
  have hl : ((put n).take m).length = m := by rw [List.length_take]; omega
  have hv : vlen ((put n).take m) = 0 := vlen_none _ fun j _ h2 => by
    rw [hl] at h2
    rw [nth_take, if_pos h2]
    exact b j (by omega)
  unfold take
  rw [if_pos hv, hl, if_pos (by omega)]
theorem put_short {n k : Nat} (hn : n < 18446744073709551616) (hk : 1 ≤ k) (h : n < 2 ^ (7 * k)) : (put n).length ≤ k := by
  rcases Nat.lt_or_ge k (put n).length with h1 | h1
  · have := (put_len_iff hn hk).2 h1
    rw [Nat.div_eq_of_lt h] at this; omega
  · exact h1
end Pl
theorem raw_str {l : List Nat} (h : Bts l) : Ev.raw (str l) = l := by
  unfold Ev.raw str
  rw [strOfNums_data, List.map_map, List.map_map]
  apply List.ext_getElem
  · simp
  intro i h1 h2
  have := h l[i] (List.getElem_mem h2)
  simp
  omega
theorem str_len (l : List Nat) : (str l).size = l.length := by
  show (str l).data.size = _
  rw [← Array.length_toList, str, strOfNums_data]
  simp
namespace Fl
/-- A value's bytes, as R reads them. -/
structure LC {α : Type} (R : List Nat → α × Nat × Nat) (D : α → List Nat → Prop) : Prop where
  go : ∀ a bs rest, D a bs → R (bs ++ rest) = (a, bs.length, 0)
  short : ∀ a bs n, D a bs → n < bs.length → (R (bs.take n)).2 = (0, 2)
  back : ∀ xs, Bts xs → (R xs).2.2 = 0 → ∃ bs rest, xs = bs ++ rest ∧ (R xs).2.1 = bs.length ∧ D (R xs).1 bs
  err : ∀ xs, Bts xs → (R xs).2.2 = 0 ∨ (R xs).2.2 = 2 ∨ (R xs).2.2 = 3
def octD (lo hi : Int) (a : Nat) (bs : List Nat) : Prop := bs = [a] ∧ lo ≤ (a : Int) ∧ (a : Int) ≤ hi
theorem oct_lc (lo hi : Int) : LC (octR lo hi) (octD lo hi) where
  go a bs rest h := by
    obtain ⟨rfl, h1, h2⟩ := h
    show octR lo hi (a :: rest) = _
    rw [octR, if_neg (by omega)]; rfl
  short a bs n h hn := by
    obtain ⟨rfl, h1, h2⟩ := h
    have : n = 0 := by simpa using hn
    subst this
    rfl
  back xs hx h := by
    cases xs with
    | nil => simp [octR] at h
    | cons x xs =>
      rw [octR] at h ⊢
      split at h
      · simp at h
      · rename_i h1
        rw [if_neg h1]
        exact ⟨[x], xs, rfl, rfl, rfl, by simp only; omega, by simp only; omega⟩
  err xs _ := by
    cases xs with
    | nil => right; left; rfl
    | cons x xs => rw [octR]; split <;> simp
def numD (lo hi : Int) (a : Nat) (bs : List Nat) : Prop := bs = Pl.put a ∧ lo ≤ (a : Int) ∧ (a : Int) ≤ hi
theorem num_lc (lo hi : Int) (hh : hi ≤ 9223372036854775807) : LC (numR lo hi) (numD lo hi) where
  go a bs rest h := by
    obtain ⟨rfl, h1, h2⟩ := h
    unfold numR
    rw [Pl.take_put (by omega)]
    simp only
    rw [if_neg (by simp), if_neg (by omega)]
  short a bs n h hn := by
    obtain ⟨rfl, h1, h2⟩ := h
    unfold numR
    rw [Pl.take_cut (by omega) hn]
    rfl
  back xs hx h := by
    unfold numR at h ⊢
    rcases Pl.take_ways hx.nth with ⟨m, hm, hv, ht, hp⟩ | ht | ht
    · rw [ht] at h ⊢
      simp only at h ⊢
      rw [if_neg (by simp)] at h ⊢
      split at h
      · simp at h
      · rename_i h1
        rw [if_neg h1]
        have hle := Pl.vlen_le xs
        exact ⟨xs.take (Pl.vlen xs), xs.drop (Pl.vlen xs), (List.take_append_drop _ _).symm, by simp only; rw [List.length_take]; omega, hp.symm, by simp only; omega, by simp only; omega⟩
    · rw [ht] at h; simp at h
    · rw [ht] at h; simp at h
  err xs hx := by
    unfold numR
    rcases Pl.take_ways hx.nth with ⟨m, hm, hv, ht, hp⟩ | ht | ht
    · rw [ht]
      simp only
      rw [if_neg (by simp)]
      split <;> simp
    · rw [ht]; simp
    · rw [ht]; simp
def wrdD (most : Int) (ok : ByteArray → Int) (s : ByteArray) (bs : List Nat) : Prop := bs = Ev.txt s ∧ 1 ≤ s.size ∧ (s.size : Int) ≤ most ∧ ok s = 0
theorem wrd_lc (most : Int) (ok : ByteArray → Int) : LC (wrdR most ok) (wrdD most ok) where
  go s bs rest h := by
    obtain ⟨rfl, h1, h2, h3⟩ := h
    have hl := Ev.raw_len s
    show wrdR most ok (s.size :: (Ev.raw s ++ rest)) = _
    have ht : (Ev.raw s ++ rest).take s.size = Ev.raw s := by rw [← hl]; simp
    rw [wrdR, if_neg (by omega), if_neg (by rw [List.length_append]; omega), ht, Ev.str_raw, if_neg (by simpa using h3)]
    simp [Ev.txt, hl]
  short s bs n h hn := by
    obtain ⟨rfl, h1, h2, h3⟩ := h
    have hl := Ev.raw_len s
    cases n with
    | zero => rfl
    | succ n =>
      show (wrdR most ok (s.size :: (Ev.raw s).take n)).2 = _
      have hn' : n < s.size := by simp only [Ev.txt, List.length_cons] at hn; omega
      rw [wrdR, if_neg (by omega), if_pos (by rw [List.length_take]; omega)]
  back xs hx h := by
    cases xs with
    | nil => simp [wrdR] at h
    | cons n ys =>
      rw [wrdR] at h ⊢
      split at h
      · simp at h
      · rename_i h1
        rw [if_neg h1]
        split at h
        · simp at h
        · rename_i h2
          rw [if_neg h2]
          split at h
          · simp at h
          · rename_i h3
            rw [if_neg h3]
            have hb : Bts (ys.take n) := fun x hx' => hx x (List.mem_cons_of_mem _ (List.mem_of_mem_take hx'))
            have hsz : (str (ys.take n)).size = n := by rw [str_len, List.length_take]; omega
            refine ⟨n :: ys.take n, ys.drop n, by simp, by simp only [List.length_cons, List.length_take]; omega, ?_, by simp only; omega, by simp only; omega, by simpa using h3⟩
            simp only [Ev.txt, hsz, raw_str hb]
  err xs _ := by
    cases xs with
    | nil => right; left; rfl
    | cons n ys =>
      rw [wrdR]
      split
      · simp
      · split
        · simp
        · split <;> simp

/-- What a field reads, and from which bytes. -/
abbrev Sp := Ev → Ev → List Nat → Prop
structure Codec (f : Fl) (S : Sp) : Prop where
  go : ∀ e e' bs rest, S e e' bs → f e (bs ++ rest) = (e', bs.length, 0)
  short : ∀ e e' bs n, S e e' bs → n < bs.length → (f e (bs.take n)).2 = (0, 2)
  back : ∀ e xs, Bts xs → (f e xs).2.2 = 0 → ∃ bs rest, xs = bs ++ rest ∧ (f e xs).2.1 = bs.length ∧ S e (f e xs).1 bs
  err : ∀ e xs, Bts xs → (f e xs).2.2 = 0 ∨ (f e xs).2.2 = 2 ∨ (f e xs).2.2 = 3
def leafS {α : Type} (D : α → List Nat → Prop) (set : α → Ev → Ev) : Sp := fun e e' bs => ∃ a, D a bs ∧ e' = set a e
theorem leaf_codec {α : Type} {R : List Nat → α × Nat × Nat} {D : α → List Nat → Prop} (h : LC R D) (set : α → Ev → Ev) : Codec (leaf R set) (leafS D set) where
  go e e' bs rest hs := by
    obtain ⟨a, hd, rfl⟩ := hs
    unfold leaf
    rw [h.go a bs rest hd, if_pos rfl]
  short e e' bs n hs hn := by
    obtain ⟨a, hd, rfl⟩ := hs
    have := h.short a bs n hd hn
    unfold leaf
    rw [this, if_neg (by simp)]
  back e xs hx hz := by
    unfold leaf at hz ⊢
    by_cases h0 : (R xs).2.2 = 0
    · rw [if_pos h0]
      obtain ⟨bs, rest, e1, e2, hd⟩ := h.back xs hx h0
      exact ⟨bs, rest, e1, e2, _, hd, rfl⟩
    · rw [if_neg h0] at hz; exact absurd hz h0
  err e xs hx := by
    unfold leaf
    have := h.err xs hx
    split <;> exact this

/-! ### rows -/
def rowH : List Fl → Fl
  | [], e, _ => (e, 0, 0)
  | f :: fs, e, xs => if (f e xs).2.2 = 0 then
      (if (rowH fs (f e xs).1 (xs.drop (f e xs).2.1)).2.2 = 0 then ((rowH fs (f e xs).1 (xs.drop (f e xs).2.1)).1, (f e xs).2.1 + (rowH fs (f e xs).1 (xs.drop (f e xs).2.1)).2.1, 0)
        else ((rowH fs (f e xs).1 (xs.drop (f e xs).2.1)).1, 0, (rowH fs (f e xs).1 (xs.drop (f e xs).2.1)).2.2))
      else ((f e xs).1, 0, (f e xs).2.2)
theorem rowG_eq : ∀ (fs : List Fl) (e : Ev) (xs : List Nat) (u : Nat), rowG fs e xs u = if (rowH fs e (xs.drop u)).2.2 = 0 then ((rowH fs e (xs.drop u)).1, u + (rowH fs e (xs.drop u)).2.1, 0) else ((rowH fs e (xs.drop u)).1, 0, (rowH fs e (xs.drop u)).2.2)
  | [], e, xs, u => by simp [rowG, rowH]
  | f :: fs, e, xs, u => by
    rw [rowG, rowH]
    generalize hf : f e (xs.drop u) = T
    obtain ⟨e1, k, z⟩ := T
    simp only
    by_cases hz : z = 0
    · rw [if_pos hz, if_pos hz, rowG_eq fs e1 xs (u + k), List.drop_drop]
      generalize rowH fs e1 (xs.drop (u + k)) = T2
      obtain ⟨e2, k2, z2⟩ := T2
      simp only
      by_cases h2 : z2 = 0
      · rw [if_pos h2, if_pos h2, if_pos rfl, Nat.add_assoc]
      · rw [if_neg h2, if_neg h2, if_neg h2]
    · rw [if_neg hz, if_neg hz, if_neg hz]
theorem row_eq (fs : List Fl) : row fs = rowH fs := by
  funext e xs
  have h1 : ∀ (fs : List Fl) (e : Ev) (xs : List Nat), (rowH fs e xs).2.2 ≠ 0 → (rowH fs e xs).2.1 = 0 := fun fs e xs => by
    cases fs with
    | nil => intro h; exact absurd rfl h
    | cons f fs =>
      rw [rowH]
      intro h
      split at h
      · rename_i h0
        rw [if_pos h0]
        split at h
        · exact absurd rfl h
        · rename_i h3; rw [if_neg h3]
      · rename_i h0; rw [if_neg h0]
  unfold row
  rw [rowG_eq, List.drop_zero]
  by_cases h : (rowH fs e xs).2.2 = 0
  · rw [if_pos h, Nat.zero_add, ← h]
  · rw [if_neg h, ← h1 fs e xs h]
def RS : List Sp → Sp
  | [], e, e', bs => e' = e ∧ bs = []
  | S :: Ss, e, e', bs => ∃ e1 b1 b2, S e e1 b1 ∧ RS Ss e1 e' b2 ∧ bs = b1 ++ b2
def Codecs : List Fl → List Sp → Prop
  | [], [] => True
  | f :: fs, S :: Ss => Codec f S ∧ Codecs fs Ss
  | [], _ :: _ => False
  | _ :: _, [] => False
theorem rowH_codec : ∀ {fs : List Fl} {Ss : List Sp}, Codecs fs Ss → Codec (rowH fs) (RS Ss)
  | [], [], _ => ⟨fun e e' bs rest ⟨h1, h2⟩ => by subst h1 h2; rfl, fun e e' bs n ⟨h1, h2⟩ hn => by subst h2; simp at hn, fun e xs _ _ => ⟨[], xs, rfl, rfl, rfl, rfl⟩, fun _ _ _ => .inl rfl⟩
  | f :: fs, S :: Ss, ⟨hf, hr⟩ => by
    have ih := rowH_codec hr
    refine ⟨fun e e' bs rest hs => ?_, fun e e' bs n hs hn => ?_, fun e xs hx hz => ?_, fun e xs hx => ?_⟩
    · obtain ⟨e1, b1, b2, h1, h2, rfl⟩ := hs
      rw [rowH, List.append_assoc, hf.go e e1 b1 (b2 ++ rest) h1]
      simp only [if_true]
      rw [List.drop_left, ih.go e1 e' b2 rest h2]
      simp
    · obtain ⟨e1, b1, b2, h1, h2, rfl⟩ := hs
      rw [rowH]
      rcases Nat.lt_or_ge n b1.length with hlt | hge
      · have ht : (b1 ++ b2).take n = b1.take n := List.take_append_of_le_length (by omega)
        have h3 := hf.short e e1 b1 n h1 hlt
        rw [ht, h3, if_neg (by simp)]
      · have ht : (b1 ++ b2).take n = b1 ++ b2.take (n - b1.length) := by
          rw [List.take_append, List.take_of_length_le hge]
        rw [List.length_append] at hn
        have h3 := ih.short e1 e' b2 (n - b1.length) h2 (by omega)
        rw [ht, hf.go e e1 b1 _ h1]
        simp only [if_true]
        rw [List.drop_left, h3, if_neg (by simp)]
    · rw [rowH] at hz ⊢
      by_cases h0 : (f e xs).2.2 = 0
      · rw [if_pos h0] at hz ⊢
        obtain ⟨b1, r1, q1, q2, q3⟩ := hf.back e xs hx h0
        by_cases h1 : (rowH fs (f e xs).1 (xs.drop (f e xs).2.1)).2.2 = 0
        · rw [if_pos h1]
          obtain ⟨b2, r2, p1, p2, p3⟩ := ih.back (f e xs).1 (xs.drop (f e xs).2.1) (hx.drop _) h1
          refine ⟨b1 ++ b2, r2, ?_, by simp only [List.length_append]; omega, (f e xs).1, b1, b2, q3, p3, rfl⟩
          have h3 : xs.drop (f e xs).2.1 = r1 := by rw [q2]; exact (congrArg (List.drop b1.length) q1).trans List.drop_left
          rw [h3] at p1
          rw [List.append_assoc, ← p1]; exact q1
        · rw [if_neg h1] at hz; exact absurd hz h1
      · rw [if_neg h0] at hz; exact absurd hz h0
    · rw [rowH]
      by_cases h0 : (f e xs).2.2 = 0
      · rw [if_pos h0]
        have := ih.err (f e xs).1 (xs.drop (f e xs).2.1) (hx.drop _)
        split
        · left; rfl
        · exact this
      · rw [if_neg h0]; exact hf.err e xs hx
  | [], _ :: _, h => h.elim
  | _ :: _, [], h => h.elim
theorem row_codec {fs : List Fl} {Ss : List Sp} (h : Codecs fs Ss) : Codec (row fs) (RS Ss) := by rw [row_eq]; exact rowH_codec h
end Fl
end Go.Proofs.Ythgfbnkggdlokaa
