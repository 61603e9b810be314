/-
  A book, plain; contacts in memory; what Of hands back.
-/
import Derived.Test.YtolpfchnfhdhkaaOfc
namespace Go.Proofs.Ytolpfchnfhdhkaa
open Go.RowKit
set_option maxRecDepth 100000
set_option maxRecDepth 100000

/-- A contact. -/
structure Ct where
  k : ByteArray
  h0 : Bool
  h1 : Bool
  f0 : ByteArray
  f1 : ByteArray
  s0 : List ByteArray
  s1 : List ByteArray
deriving DecidableEq
namespace Ct
def zero : Ct := ⟨⟨#[]⟩, false, false, ⟨#[]⟩, ⟨#[]⟩, [], []⟩
def nth (cs : List Ct) (i : Nat) : Ct := cs.getD i zero
def cells (c : Ct) (u0 u1 : Value) : Array Value := #[.string c.k, .bool c.h0, .bool c.h1, .string c.f0, .string c.f1, u0, u1]
def flat (cs : List Ct) (us : Nat → Nat → Value) (n : Nat) : List Value := (List.range n).flatMap fun i => (cells (nth cs i) (us i 0) (us i 1)).toList
theorem flat_succ (cs : List Ct) (us : Nat → Nat → Value) (n : Nat) : flat cs us (n + 1) = flat cs us n ++ (cells (nth cs n) (us n 0) (us n 1)).toList := by simp [flat, List.range_succ]
theorem flat_len (cs : List Ct) (us : Nat → Nat → Value) (n : Nat) : (flat cs us n).length = n * 7 := by
  induction n with
  | zero => rfl
  | succ n ih => rw [flat_succ, List.length_append, ih]; simp [cells]; omega
theorem flat_at (cs : List Ct) (us : Nat → Nat → Value) : ∀ (n i : Nat), i < n → ∀ j, j < 7 → (flat cs us n)[i * 7 + j]? = (cells (nth cs i) (us i 0) (us i 1)).toList[j]?
  | 0, i, h, _, _ => by omega
  | n + 1, i, h, j, hj => by
    rw [flat_succ]
    by_cases e : i < n
    · rw [List.getElem?_append_left (by rw [flat_len]; omega)]
      exact flat_at cs us n i e j hj
    · obtain rfl : i = n := by omega
      rw [List.getElem?_append_right (by rw [flat_len]; omega), flat_len, show i * 7 + j - i * 7 = j by omega]
end Ct
/-- A slice of texts, as a value. -/
def StrV (w : World) (u : Value) (xs : List ByteArray) : Prop := ∃ A cap, u = .slice A xs.length cap ∧ Sl w 1 A xs.length cap (Bk.strV xs)
theorem StrV.up {w w' : World} {u : Value} {xs : List ByteArray} (h : StrV w u xs) (hu : Lex.Up w w') : StrV w' u xs := by
  obtain ⟨A, cap, e, hs⟩ := h
  exact ⟨A, cap, e, hs.up hu⟩
/-- A slice of contacts. -/
def CtSl (w : World) (A : Option Addr) (n cap : Nat) (cs : List Ct) : Prop :=
  cs.length = n ∧ ∃ us : Nat → Nat → Value, Sl w 7 A n cap (Ct.flat cs us n) ∧ ∀ i, i < n → StrV w (us i 0) (Ct.nth cs i).s0 ∧ StrV w (us i 1) (Ct.nth cs i).s1
theorem CtSl.up {w w' : World} {A : Option Addr} {n cap : Nat} {cs : List Ct} (h : CtSl w A n cap cs) (hu : Lex.Up w w') : CtSl w' A n cap cs := by
  obtain ⟨h1, us, h2, h3⟩ := h
  exact ⟨h1, us, h2.up hu, fun i hi => ⟨(h3 i hi).1.up hu, (h3 i hi).2.up hu⟩⟩
/-- Contact i of a slice. -/
theorem ct_at {w : World} {A : Option Addr} {n cap : Nat} {cs : List Ct} (h : CtSl w A n cap cs) {i : Nat} (hi : i < n) :
    ∃ b off A0 c0 A1 c1, A = some ⟨b, off, none⟩ ∧ w.cell? ⟨b, off + i * 7, none⟩ = some (.string (Ct.nth cs i).k) ∧ w.cell? ⟨b, off + i * 7 + 1, none⟩ = some (.bool (Ct.nth cs i).h0) ∧ w.cell? ⟨b, off + i * 7 + 2, none⟩ = some (.bool (Ct.nth cs i).h1) ∧
      w.cell? ⟨b, off + i * 7 + 3, none⟩ = some (.string (Ct.nth cs i).f0) ∧ w.cell? ⟨b, off + i * 7 + 4, none⟩ = some (.string (Ct.nth cs i).f1) ∧ w.cell? ⟨b, off + i * 7 + 5, none⟩ = some (.slice A0 (Ct.nth cs i).s0.length c0) ∧
      w.cell? ⟨b, off + i * 7 + 6, none⟩ = some (.slice A1 (Ct.nth cs i).s1.length c1) ∧ Sl w 1 A0 (Ct.nth cs i).s0.length c0 (Bk.strV (Ct.nth cs i).s0) ∧ Sl w 1 A1 (Ct.nth cs i).s1.length c1 (Bk.strV (Ct.nth cs i).s1) := by
  obtain ⟨h1, us, h2, h3⟩ := h
  obtain ⟨⟨A0, c0, e0, g0⟩, ⟨A1, c1, e1, g1⟩⟩ := h3 i hi
  obtain ⟨b, off, e, hbl, hc⟩ := h2.2.2.2 (by omega)
  have key : ∀ j v, j < 7 → (Ct.cells (Ct.nth cs i) (us i 0) (us i 1)).toList[j]? = some v → w.cell? ⟨b, off + i * 7 + j, none⟩ = some v := fun j v hj hv => by
    rw [Nat.add_assoc]
    exact hc _ _ (by rw [Ct.flat_at cs us n i hi j hj]; exact hv)
  exact ⟨b, off, A0, c0, A1, c1, e, key 0 _ (by omega) rfl, key 1 _ (by omega) rfl, key 2 _ (by omega) rfl, key 3 _ (by omega) rfl, key 4 _ (by omega) rfl, key 5 _ (by omega) (by rw [← e0]; rfl), key 6 _ (by omega) (by rw [← e1]; rfl), g0, g1⟩
namespace Bk
def nub : List ByteArray → List ByteArray
  | [] => []
  | x :: xs => if (nub xs).any (fun y => decide (y = x)) = true then nub xs else x :: nub xs
theorem any_mem (x : ByteArray) (l : List ByteArray) : l.any (fun y => decide (y = x)) = true ↔ x ∈ l := by
  rw [List.any_eq_true]
  constructor
  · rintro ⟨y, hy, e⟩
    have : y = x := by simpa using e
    exact this ▸ hy
  · intro h; exact ⟨x, h, by simp⟩
theorem mem_nub (x : ByteArray) (xs : List ByteArray) : x ∈ nub xs ↔ x ∈ xs := by
  induction xs with
  | nil => simp [nub]
  | cons y xs ih =>
    unfold nub
    by_cases h : (nub xs).any (fun z => decide (z = y)) = true
    · rw [if_pos h, ih, List.mem_cons]
      constructor
      · exact .inr
      · rintro (rfl | h2)
        · exact ih.1 ((any_mem _ _).1 h)
        · exact h2
    · rw [if_neg h, List.mem_cons, List.mem_cons, ih]
theorem nodup_nub (xs : List ByteArray) : (nub xs).Nodup := by
  induction xs with
  | nil => exact List.nodup_nil
  | cons y xs ih =>
    unfold nub
    by_cases h : (nub xs).any (fun z => decide (z = y)) = true
    · rw [if_pos h]; exact ih
    · rw [if_neg h]
      exact List.nodup_cons.2 ⟨fun q => h ((any_mem _ _).2 q), ih⟩
/-- The contact of a key. -/
def ct (es : List Ev) (k : ByteArray) : Ct := ⟨k, has (fl es es k 0), has (fl es es k 1), field (fl es es k 0), field (fl es es k 1), set (al es es k 0), set (al es es k 1)⟩
def keys (es : List Ev) : List ByteArray := sortS (nub ((es.filter (cnt es)).map (·.key)))
def book (es : List Ev) : List Ct := (keys es).map (ct es)
theorem sortS_of_perm {xs ys : List ByteArray} (h : xs.Perm ys) : sortS xs = sortS ys := by
  unfold sortS
  congr 1
  exact Go.mergeSort_of_perm (h.map oct)
theorem keys_of {es : List Ev} {ls : List ByteArray} (hn : ls.Nodup) (h : ∀ key, key ∈ ls ↔ ∃ e ∈ es, cnt es e = true ∧ e.key = key) : sortS ls = keys es := by
  refine sortS_of_perm ?_
  refine (List.perm_ext_iff_of_nodup hn (nodup_nub _)).2 fun key => ?_
  rw [h, mem_nub, List.mem_map]
  constructor
  · rintro ⟨e, he, hc, hk⟩; exact ⟨e, List.mem_filter.2 ⟨he, hc⟩, hk⟩
  · rintro ⟨e, he, hk⟩; exact ⟨e, (List.mem_filter.1 he).1, (List.mem_filter.1 he).2, hk⟩
theorem nth_book {es : List Ev} {ks : List ByteArray} {i : Nat} (hi : i < ks.length) : Ct.nth (ks.map (ct es)) i = ct es (key ks i) := by
  unfold Ct.nth key
  rw [List.getD, List.getD, List.getElem?_map, List.getElem?_eq_getElem hi]; rfl
end Bk
theorem flat_book (es : List Ev) (ks : List ByteArray) (us : Nat → Nat → Value) : ∀ n, n ≤ ks.length → Ct.flat (ks.map (Bk.ct es)) us n = Bk.ctks es ks us n
  | 0, _ => rfl
  | n + 1, h => by
    rw [Ct.flat_succ, Bk.ctks_succ, flat_book es ks us n (by omega), Bk.nth_book (by omega)]
    rfl
theorem book_any (es : List Ev) (A : Option Addr) (n cap : Nat) (w : World) (h : EvSl w A n cap es) (hn : n ≤ 1000000) (hks : ∀ e ∈ es, e.key.size ≤ maxLen) :
    Calls Try.prog 32 #[.slice A n cap] w fun x w' => (∃ A' cap', x = .returned (.slice A' (Bk.book es).length cap') ∧ CtSl w' A' (Bk.book es).length cap' (Bk.book es)) ∧ Lex.Up w w' := by
  refine (of_any es A n cap w h hn hks).mono ?_
  rintro x w' ⟨v, ks, rfl, ⟨A', cap', us, rfl, hs, hset⟩, ⟨ls, hnd, hmem, rfl⟩, hu⟩
  rw [Bk.keys_of hnd hmem] at hs hset ⊢
  have hl : (Bk.book es).length = (Bk.keys es).length := by simp [Bk.book]
  refine ⟨⟨A', cap', by rw [hl], rfl, us, ?_, fun i hi => ?_⟩, hu⟩
  · rw [hl]
    unfold Bk.book
    rw [flat_book es _ us _ (Nat.le_refl _)]
    exact hs
  · rw [hl] at hi
    unfold Bk.book
    rw [Bk.nth_book hi]
    obtain ⟨ob0, B0, c0, e0, g0, _⟩ := hset i hi 0 (by omega)
    obtain ⟨ob1, B1, c1, e1, g1, _⟩ := hset i hi 1 (by omega)
    exact ⟨⟨B0, c0, e0, g0⟩, ⟨B1, c1, e1, g1⟩⟩
end Go.Proofs.Ytolpfchnfhdhkaa
