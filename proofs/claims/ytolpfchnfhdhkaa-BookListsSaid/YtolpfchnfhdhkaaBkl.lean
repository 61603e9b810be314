/-
  Contacts told rising by key, the values of a set rising; what was written, plain.
-/
import Derived.Test.YtolpfchnfhdhkaaWro
import Derived.Sort.Walk0
namespace Go.Proofs.Ytolpfchnfhdhkaa
open Go.RowKit
set_option maxRecDepth 100000
set_option maxRecDepth 100000

namespace Bk
theorem oct_le_trans (a b c : List UInt8) : decide (a ≤ b) = true → decide (b ≤ c) = true → decide (a ≤ c) = true := by
  simp only [decide_eq_true_eq]; exact fun h k => Std.le_trans h k
theorem oct_le_total (a b : List UInt8) : (decide (a ≤ b) || decide (b ≤ a)) = true := by
  simp only [Bool.or_eq_true, decide_eq_true_eq]; exact Std.le_total
theorem oct_lt_of {a b : List UInt8} (h : a ≤ b) (hne : a ≠ b) : a < b := by
  rcases Classical.em (a < b) with q | q
  · exact q
  · exact absurd (List.le_antisymm h (List.not_lt.1 q)) hne
def lt (a b : ByteArray) : Prop := oct a < oct b
theorem lt_less {a b : ByteArray} (h : lt a b) : Op.bytesLess a.toList b.toList = true := by
  rw [bytesLess_eq, ByteArray.toList_eq, ByteArray.toList_eq]
  simp only [decide_eq_true_eq]
  exact h
theorem oct_inj {a b : ByteArray} (h : oct a = oct b) : a = b := by rw [← toStr_oct a, h, toStr_oct]
theorem sortS_le (xs : List ByteArray) : (sortS xs).Pairwise fun a b => oct a ≤ oct b := by
  unfold sortS
  rw [List.pairwise_map]
  refine (List.pairwise_mergeSort oct_le_trans oct_le_total (xs.map oct)).imp ?_
  intro a b h
  rw [oct_toStr, oct_toStr]
  simpa using h
theorem sortS_lt {xs : List ByteArray} (h : xs.Nodup) : (sortS xs).Pairwise lt := by
  have hn : (sortS xs).Nodup := (sortS_perm xs).nodup_iff.2 h
  refine ((sortS_le xs).and hn).imp ?_
  rintro a b ⟨h1, h2⟩
  exact oct_lt_of h1 fun e => h2 (oct_inj e)
theorem keys_lt (es : List Ev) : (keys es).Pairwise lt := sortS_lt (nodup_nub _)
theorem mem_keys (es : List Ev) (key : ByteArray) : key ∈ keys es ↔ ∃ e ∈ es, cnt es e = true ∧ e.key = key := by
  unfold keys
  rw [(sortS_perm _).mem_iff, mem_nub, List.mem_map]
  constructor
  · rintro ⟨e, he, hk⟩; exact ⟨e, (List.mem_filter.1 he).1, (List.mem_filter.1 he).2, hk⟩
  · rintro ⟨e, he, hc, hk⟩; exact ⟨e, List.mem_filter.2 ⟨he, hc⟩, hk⟩
/-- A row that rises: what stands there once. -/
theorem compact_spec (d : Array (List UInt8)) (hd : ∀ i j, i ≤ j → j < d.size → d[i]! ≤ d[j]!) : ∀ m, m ≤ d.size →
    (Lib.compactUpTo d m).Pairwise (· < ·) ∧ (∀ x, x ∈ Lib.compactUpTo d m ↔ ∃ j, j < m ∧ d[j]! = x)
  | 0, _ => by simp [Lib.compactUpTo]
  | m + 1, h => by
    obtain ⟨h1, h2⟩ := compact_spec d hd m (by omega)
    rw [Lib.compactUpTo_succ]
    cases hk : Lib.keeps d m
    · have hm : 0 < m ∧ d[m]! = d[m - 1]! := by
        unfold Lib.keeps at hk
        simp at hk
        exact ⟨by omega, by have := hk.2; first | exact this | exact this.symm⟩
      simp only [Bool.false_eq_true, if_false, List.append_nil]
      refine ⟨h1, fun x => ?_⟩
      rw [h2]
      constructor
      · rintro ⟨j, hj, e⟩; exact ⟨j, by omega, e⟩
      · rintro ⟨j, hj, e⟩
        rcases Nat.lt_or_ge j m with q | q
        · exact ⟨j, q, e⟩
        · obtain rfl : j = m := by omega
          exact ⟨j - 1, by omega, by rw [← hm.2]; exact e⟩
    · have hm : m = 0 ∨ d[m]! ≠ d[m - 1]! := by
        unfold Lib.keeps at hk
        simp at hk
        rcases hk with hk | hk
        · exact .inl hk
        · exact .inr (by first | exact hk | exact fun e => hk e.symm)
      simp only [if_true]
      refine ⟨List.pairwise_append.2 ⟨h1, by simp, fun x hx y hy => ?_⟩, fun x => ?_⟩
      · obtain ⟨j, hj, rfl⟩ := (h2 x).1 hx
        have : y = d[m]! := by simpa using hy
        subst this
        refine oct_lt_of (hd j m (by omega) (by omega)) fun e => ?_
        rcases hm with hm | hm
        · omega
        · refine hm (List.le_antisymm ?_ (hd (m - 1) m (by omega) (by omega)))
          rw [← e]
          exact hd j (m - 1) (by omega) (by omega)
      · rw [List.mem_append, h2]
        constructor
        · rintro (⟨j, hj, e⟩ | hx)
          · exact ⟨j, by omega, e⟩
          · exact ⟨m, by omega, (show x = d[m]! by simpa using hx).symm⟩
        · rintro ⟨j, hj, e⟩
          rcases Nat.lt_or_ge j m with q | q
          · exact .inl ⟨j, q, e⟩
          · obtain rfl : j = m := by omega
            exact .inr (by simp [e])
theorem comp_spec {xs : List ByteArray} (h : xs.Pairwise fun a b => oct a ≤ oct b) : (compS xs).Pairwise lt ∧ ∀ x, x ∈ compS xs ↔ x ∈ xs := by
  have hl : (xs.map oct).toArray.size = xs.length := by simp
  have hg : ∀ j, (hj : j < xs.length) → (xs.map oct).toArray[j]! = oct xs[j] := fun j hj => by simp [hj]
  have hd : ∀ i j, i ≤ j → j < (xs.map oct).toArray.size → (xs.map oct).toArray[i]! ≤ (xs.map oct).toArray[j]! := fun i j hij hj => by
    rw [hl] at hj
    rw [hg i (by omega), hg j hj]
    rcases Nat.lt_or_eq_of_le hij with q | rfl
    · exact List.pairwise_iff_getElem.1 h i j _ _ q
    · exact Std.le_refl _
  obtain ⟨h1, h2⟩ := compact_spec _ hd (xs.map oct).length (by simp)
  unfold compS
  refine ⟨?_, fun x => ?_⟩
  · rw [List.pairwise_map]
    refine h1.imp ?_
    intro a b hab
    unfold lt
    rw [oct_toStr, oct_toStr]
    exact hab
  · rw [List.mem_map]
    constructor
    · rintro ⟨l, hl1, rfl⟩
      obtain ⟨j, hj, rfl⟩ := (h2 _).1 hl1
      have hj' : j < xs.length := by simpa using hj
      rw [hg j hj', toStr_oct]
      exact List.getElem_mem hj'
    · intro hx
      obtain ⟨j, hj, rfl⟩ := List.mem_iff_getElem.1 hx
      exact ⟨oct xs[j], (h2 _).2 ⟨j, by simpa using hj, hg j hj⟩, toStr_oct _⟩
theorem set_lt (xs : List Ev) : (set xs).Pairwise lt := (comp_spec (sortS_le _)).1
theorem mem_set (xs : List Ev) (v : ByteArray) : v ∈ set xs ↔ ∃ x ∈ xs, x.v = v := by
  unfold set
  rw [(comp_spec (sortS_le _)).2, (sortS_perm _).mem_iff, vals, List.mem_map]
theorem nodup_len : ∀ {xs ys : List ByteArray}, xs.Nodup → (∀ x ∈ xs, x ∈ ys) → xs.length ≤ ys.length
  | [], _, _, _ => Nat.zero_le _
  | x :: xs, ys, hn, h => by
    obtain ⟨h1, h2⟩ := List.nodup_cons.1 hn
    have hx := h x (by simp)
    have := nodup_len (xs := xs) (ys := ys.filter fun y => !decide (y = x)) h2 fun y hy => List.mem_filter.2 ⟨h y (by simp [hy]), by simp; rintro rfl; exact h1 hy⟩
    have hp : (ys.filter fun y => !decide (y = x)).length < ys.length := List.length_filter_lt_length_iff_exists.2 ⟨x, hx, by simp⟩
    simp only [List.length_cons]; omega
/-- Whoever is told of has a Create that lives. -/
theorem key_create {es : List Ev} {e : Ev} (he : e ∈ es) (hc : cnt es e = true) : ∃ x ∈ es, x.k = 1 ∧ x.key = e.key ∧ cnt es x = true := by
  have yes : ∀ x ∈ es, x.k = 1 → underC es 2 x = false → cnt es x = true := fun x _ h1 h2 => by unfold cnt; rw [if_pos h1, h2]; rfl
  have st : standC (first es es e.key) e = true → ∃ x ∈ es, x.k = 1 ∧ x.key = e.key ∧ cnt es x = true := fun h => by
    obtain ⟨x, hx, h1, h2, h3, _⟩ := (standC_iff es e).1 h
    exact ⟨x, hx, h1, h3, yes x hx h1 h2⟩
  by_cases k1 : e.k = 1
  · exact ⟨e, he, k1, rfl, hc⟩
  · unfold cnt at hc
    rw [if_neg k1] at hc
    by_cases k3 : e.k = 3
    · rw [if_pos k3] at hc; exact st hc
    · rw [if_neg k3] at hc
      by_cases k4 : e.k = 4
      · rw [if_pos k4, Bool.and_eq_true] at hc; exact st hc.1
      · rw [if_neg k4] at hc; cases hc
theorem size_le (es : List Ev) : size es ≤ es.length := List.length_filter_le _ _
theorem keys_le (es : List Ev) : (keys es).length ≤ size es := by
  have hn : (keys es).Nodup := (sortS_perm _).nodup_iff.2 (nodup_nub _)
  have := nodup_len (ys := (es.filter (kept es)).map (·.key)) hn fun key hk => by
    obtain ⟨e, he, hc, rfl⟩ := (mem_keys es key).1 hk
    obtain ⟨x, hx, k1, hxk, hcx⟩ := key_create he hc
    refine List.mem_map.2 ⟨x, List.mem_filter.2 ⟨hx, ?_⟩, hxk⟩
    unfold kept cov
    rw [if_pos k1, hcx]; rfl
  rw [List.length_map] at this
  exact this
theorem size_zero {es : List Ev} (h : (keys es).length = 0) : size es = 0 := by
  unfold size
  rw [List.length_eq_zero_iff, List.filter_eq_nil_iff]
  intro e he hk
  have hc : cnt es e = true := by unfold kept at hk; rw [Bool.and_eq_true] at hk; exact hk.1
  have : e.key ∈ keys es := (mem_keys es _).2 ⟨e, he, hc, rfl⟩
  rw [List.length_eq_zero_iff.1 h] at this
  cases this
theorem field_mem {xs : List Ev} (h : has xs = true) : ∃ x ∈ xs, x.v = field xs := by
  unfold has at h
  have h0 : 0 ≤ Stp.last (stamps xs) := by simpa using h
  have hl := last_lt h0
  refine ⟨xs[(Stp.last (stamps xs)).toNat], List.getElem_mem hl, ?_⟩
  unfold field
  rw [if_pos h0, List.getD, vals, List.getElem?_map, List.getElem?_eq_getElem hl]; rfl
theorem field_none {xs : List Ev} (h : has xs = false) : field xs = ⟨#[]⟩ := by
  unfold has at h
  unfold field
  rw [if_neg (by simpa using h)]
end Bk
namespace Ct
def h (c : Ct) (n : Nat) : Bool := if n = 0 then c.h0 else c.h1
def f (c : Ct) (n : Nat) : ByteArray := if n = 0 then c.f0 else c.f1
def s (c : Ct) (n : Nat) : List ByteArray := if n = 0 then c.s0 else c.s1
end Ct
namespace Bk
def sAt (l : List ByteArray) (k : Nat) : ByteArray := l.getD k ⟨#[]⟩
theorem sAt_mem {l : List ByteArray} {k : Nat} (h : k < l.length) : sAt l k ∈ l := by
  unfold sAt; rw [List.getD, List.getElem?_eq_getElem h]; exact List.getElem_mem h
theorem sAt_lt {l : List ByteArray} (hl : l.Pairwise lt) {k : Nat} (h : k + 1 < l.length) : Op.bytesLess (sAt l k).toList (sAt l (k + 1)).toList = true := by
  apply lt_less
  unfold sAt
  rw [List.getD, List.getD, List.getElem?_eq_getElem h, List.getElem?_eq_getElem (show k < l.length by omega)]
  exact List.pairwise_iff_getElem.1 hl k (k + 1) _ _ (by omega)
theorem book_len (es : List Ev) : (book es).length = (keys es).length := by simp [book]
theorem book_at {es : List Ev} {i : Nat} (hi : i < (book es).length) : Ct.nth (book es) i = ct es (sAt (keys es) i) := by
  rw [book_len] at hi
  unfold book
  rw [nth_book hi]; rfl
def mk (k : Int) (key : ByteArray) (l : Int) (v : ByteArray) : Ev := ⟨0, 0, Ck.zero, 0, k, key, l, v⟩
/-- Only what was written is told. -/
theorem told {es : List Ev} {i : Nat} (hi : i < (book es).length) :
    (∀ j, i = j + 1 → Op.bytesLess (Ct.nth (book es) j).k.toList (Ct.nth (book es) i).k.toList = true) ∧ wrote es (mk 1 (Ct.nth (book es) i).k 0 ⟨#[]⟩) = true ∧
    ∀ n, n < 2 → ((Ct.h (Ct.nth (book es) i) n = false → Ct.f (Ct.nth (book es) i) n = ⟨#[]⟩) ∧ (Ct.h (Ct.nth (book es) i) n = true → wrote es (mk 3 (Ct.nth (book es) i).k n (Ct.f (Ct.nth (book es) i) n)) = true)) ∧
      ∀ k, k < (Ct.s (Ct.nth (book es) i) n).length → (∀ j, k = j + 1 → Op.bytesLess (sAt (Ct.s (Ct.nth (book es) i) n) j).toList (sAt (Ct.s (Ct.nth (book es) i) n) k).toList = true) ∧
        wrote es (mk 4 (Ct.nth (book es) i).k n (sAt (Ct.s (Ct.nth (book es) i) n) k)) = true := by
  have hk : i < (keys es).length := by rw [← book_len]; exact hi
  have hmem := (mem_keys es _).1 (sAt_mem hk)
  refine ⟨fun j hj => ?_, ?_, fun n hn => ⟨⟨?_, ?_⟩, fun k hkl => ⟨fun j hj => ?_, ?_⟩⟩⟩
  · subst hj
    rw [book_at hi, book_at (by omega)]
    exact sAt_lt (keys_lt es) hk
  · rw [book_at hi]
    obtain ⟨e, he, hc, hke⟩ := hmem
    obtain ⟨x, hx, k1, hxk, _⟩ := key_create he hc
    exact (wrote_iff _ _).2 ⟨x, hx, k1, by rw [hxk, hke]; rfl, .inl rfl⟩
  · rw [book_at hi]
    match n, hn with
    | 0, _ | 1, _ => exact field_none
  · rw [book_at hi]
    match n, hn with
    | 0, _ | 1, _ =>
      intro h
      obtain ⟨x, hx, hv⟩ := field_mem h
      obtain ⟨hx1, hx2⟩ := List.mem_filter.1 hx
      obtain ⟨_, b, c, d, _⟩ := (isW_iff _ _ _ _ _).1 hx2
      exact (wrote_iff _ _).2 ⟨x, hx1, b, c, .inr ⟨d, hv⟩⟩
  · rw [book_at hi] at hkl ⊢
    subst hj
    match n, hn with
    | 0, _ | 1, _ => exact sAt_lt (set_lt _) hkl
  · rw [book_at hi] at hkl ⊢
    have hm := sAt_mem hkl
    match n, hn, hm with
    | 0, _, hm | 1, _, hm =>
      obtain ⟨x, hx, hv⟩ := (mem_set _ _).1 hm
      obtain ⟨hx1, hx2⟩ := List.mem_filter.1 hx
      obtain ⟨_, b, c, d, _⟩ := (isW_iff _ _ _ _ _).1 hx2
      exact (wrote_iff _ _).2 ⟨x, hx1, b, c, .inr ⟨d, hv⟩⟩
end Bk
end Go.Proofs.Ytolpfchnfhdhkaa
