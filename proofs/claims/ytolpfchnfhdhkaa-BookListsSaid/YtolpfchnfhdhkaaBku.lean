/-
  What counts, by what is there, in whichever order; a book of the same events in another order.
-/
import Derived.Test.YtolpfchnfhdhkaaWrp
import Derived.Test.YtolpfchnfhdhkaaSiz
namespace Go.Proofs.Ytolpfchnfhdhkaa
open Go.RowKit
set_option maxRecDepth 100000
set_option maxRecDepth 100000

theorem Ck.get_big (c : Ck) {j : Nat} (h : 5 ≤ j) : c.get j = 0 := by
  unfold Ck.get
  split <;> first | omega | rfl
namespace Bk
theorem has_seen (t : Tg) (r n : Int) : ∀ (es : List Ev) (c : Ck), Ck.has (es.foldl (fun c x => if Tg.of x.k x = t then Ck.join c x.c else c) c) r n = true ↔ Ck.has c r n = true ∨ ∃ x ∈ es, Tg.of x.k x = t ∧ Ck.has x.c r n = true
  | [], c => by simp
  | x :: es, c => by
    rw [List.foldl_cons, has_seen t r n es]
    by_cases h : Tg.of x.k x = t
    · rw [if_pos h, Ck.has_join, Bool.or_eq_true]
      constructor
      · rintro ((h1 | h1) | ⟨y, hy, h2⟩)
        · exact .inl h1
        · exact .inr ⟨x, by simp, h, h1⟩
        · exact .inr ⟨y, by simp [hy], h2⟩
      · rintro (h1 | ⟨y, hy, h2, h3⟩)
        · exact .inl (.inl h1)
        · rcases List.mem_cons.1 hy with rfl | hy
          · exact .inl (.inr h3)
          · exact .inr ⟨y, hy, h2, h3⟩
    · rw [if_neg h]
      constructor
      · rintro (h1 | ⟨y, hy, h2⟩)
        · exact .inl h1
        · exact .inr ⟨y, by simp [hy], h2⟩
      · rintro (h1 | ⟨y, hy, h2, h3⟩)
        · exact .inl h1
        · rcases List.mem_cons.1 hy with rfl | hy
          · exact absurd h2 h
          · exact .inr ⟨y, hy, h2, h3⟩
/-- One of this kind, of the thing of e, is above e. -/
theorem underC_iff (es : List Ev) (k : Int) (e : Ev) : underC es k e = true ↔ ∃ x ∈ es, x.k = k ∧ Tg.of k x = Tg.of k e ∧ Ck.has x.c e.r e.n = true := by
  unfold underC seen
  rw [has_seen, has_zero]
  constructor
  · rintro (h | ⟨x, hx, h1, h2⟩)
    · cases h
    · have hk : x.k = k := by have := congrArg Tg.k h1; rwa [of_k, of_k] at this
      exact ⟨x, hx, hk, by rw [← h1, hk], h2⟩
  · rintro ⟨x, hx, hk, h1, h2⟩
    exact .inr ⟨x, hx, by rw [hk]; exact h1, h2⟩
/-- The first number of each replica. -/
theorem first_spec (es : List Ev) (key : ByteArray) (r : Nat) (hr : r < 5) (m : Int) : ∀ (pre : List Ev) (c : Ck), 0 ≤ c.get r →
    (1 ≤ (pre.foldl (fun c x => if isFirst es x ∧ x.key = key then begun c x else c) c).get r ∧ (pre.foldl (fun c x => if isFirst es x ∧ x.key = key then begun c x else c) c).get r ≤ m ↔
      (1 ≤ c.get r ∧ c.get r ≤ m) ∨ ∃ x ∈ pre, isFirst es x ∧ x.key = key ∧ x.r = r ∧ x.n ≤ m)
  | [], c, _ => by simp
  | x :: pre, c, h0 => by
    rw [List.foldl_cons]
    by_cases h : isFirst es x ∧ x.key = key
    · rw [if_pos h]
      obtain ⟨⟨hk, hu, hr0, hr5, hn⟩, hkey⟩ := h
      by_cases hxr : x.r = r
      · have hrn : x.r.toNat = r := by omega
        have hb : (begun c x).get r = if c.get r = 0 ∨ x.n < c.get r then x.n else c.get r := by
          unfold begun
          rw [hrn]
          split
          · rw [Ck.get_set' _ _ _ _ hr, if_pos rfl]
          · rfl
        rw [first_spec es key r hr m pre _ (by rw [hb]; split <;> omega), hb]
        constructor
        · rintro (⟨h1, h2⟩ | ⟨y, hy, q⟩)
          · split at h2
            · exact .inr ⟨x, by simp, ⟨hk, hu, hr0, hr5, hn⟩, hkey, hxr, h2⟩
            · rename_i hc
              exact .inl ⟨by omega, h2⟩
          · exact .inr ⟨y, by simp [hy], q⟩
        · rintro (⟨h1, h2⟩ | ⟨y, hy, q1, q2, q3, q4⟩)
          · exact .inl ⟨by split <;> omega, by split <;> omega⟩
          · rcases List.mem_cons.1 hy with rfl | hy
            · exact .inl ⟨by split <;> omega, by split <;> omega⟩
            · exact .inr ⟨y, hy, q1, q2, q3, q4⟩
      · have hb : (begun c x).get r = c.get r := by
          unfold begun
          split
          · rw [Ck.get_set' _ _ _ _ hr, if_neg (by omega)]
          · rfl
        rw [first_spec es key r hr m pre _ (by rw [hb]; exact h0), hb]
        constructor
        · rintro (q | ⟨y, hy, q⟩)
          · exact .inl q
          · exact .inr ⟨y, by simp [hy], q⟩
        · rintro (q | ⟨y, hy, q1, q2, q3, q4⟩)
          · exact .inl q
          · rcases List.mem_cons.1 hy with rfl | hy
            · exact absurd q3 hxr
            · exact .inr ⟨y, hy, q1, q2, q3, q4⟩
    · rw [if_neg h, first_spec es key r hr m pre c h0]
      constructor
      · rintro (q | ⟨y, hy, q⟩)
        · exact .inl q
        · exact .inr ⟨y, by simp [hy], q⟩
      · rintro (q | ⟨y, hy, q1, q2, q3, q4⟩)
        · exact .inl q
        · rcases List.mem_cons.1 hy with rfl | hy
          · exact absurd ⟨q1, q2⟩ h
          · exact .inr ⟨y, hy, q1, q2, q3, q4⟩
theorem standC_of (c : Ck) (e : Ev) : standC c e = true ↔ ∃ r : Nat, r < 5 ∧ Ck.has e.c r (c.get r) = true := by
  constructor
  · intro h
    rcases Classical.em (∃ r : Nat, r < 5 ∧ Ck.has e.c r (c.get r) = true) with q | q
    · exact q
    · rw [standC_no (fun k hk => by rw [← Bool.not_eq_true]; exact fun w => q ⟨k, hk, w⟩)] at h
      cases h
  · rintro ⟨r, hr, h⟩
    exact standC_yes hr h
/-- A Create of e's key that lives is below e. -/
theorem standC_iff (es : List Ev) (e : Ev) : standC (first es es e.key) e = true ↔ ∃ x ∈ es, x.k = 1 ∧ underC es 2 x = false ∧ x.key = e.key ∧ Ck.has e.c x.r x.n = true := by
  rw [standC_of]
  have hz : ∀ r, Ck.zero.get r = 0 := fun r => by
    unfold Ck.get Ck.zero
    split <;> rfl
  constructor
  · rintro ⟨r, hr, h⟩
    simp only [Ck.has, Bool.and_eq_true, decide_eq_true_eq, Int.toNat_natCast] at h
    have := (first_spec es e.key r hr (e.c.get r) es Ck.zero (by rw [hz]; omega)).1 ⟨h.2.1, h.2.2⟩
    rcases this with ⟨q, _⟩ | ⟨x, hx, hf, hk, hxr, hxn⟩
    · rw [hz] at q; omega
    · refine ⟨x, hx, hf.1, hf.2.1, hk, ?_⟩
      simp only [Ck.has, Bool.and_eq_true, decide_eq_true_eq]
      exact ⟨by rw [hxr]; exact h.1, hf.2.2.2.2, by rw [hxr]; exact hxn⟩
  · rintro ⟨x, hx, hk, hu, hkey, h⟩
    simp only [Ck.has, Bool.and_eq_true, decide_eq_true_eq] at h
    obtain ⟨r, hr, hr5⟩ := Ck.rep_nat h.1
    have hrn : x.r.toNat = r := by omega
    have := (first_spec es e.key r hr5 (e.c.get r) es Ck.zero (by rw [hz]; omega)).2 (.inr ⟨x, hx, ⟨hk, hu, by omega, by omega, h.2.1⟩, hkey, hr, by rw [hrn] at h; exact h.2.2⟩)
    refine ⟨r, hr5, ?_⟩
    simp only [Ck.has, Bool.and_eq_true, decide_eq_true_eq, Int.toNat_natCast]
    exact ⟨by rw [← hr]; exact h.1, this.1, this.2⟩
/-- The same events: the same is under, stands, counts. -/
theorem under_same {es fs : List Ev} (h : ∀ x, x ∈ es ↔ x ∈ fs) (k : Int) (e : Ev) : underC es k e = underC fs k e := by
  rw [Bool.eq_iff_iff, underC_iff, underC_iff]
  simp only [h]
theorem stand_same {es fs : List Ev} (h : ∀ x, x ∈ es ↔ x ∈ fs) (e : Ev) : standC (first es es e.key) e = standC (first fs fs e.key) e := by
  rw [Bool.eq_iff_iff, standC_iff, standC_iff]
  simp only [h, under_same h]
theorem cnt_same {es fs : List Ev} (h : ∀ x, x ∈ es ↔ x ∈ fs) (e : Ev) : cnt es e = cnt fs e := by
  unfold cnt
  rw [under_same h, under_same h, stand_same h]
theorem cov_same {es fs : List Ev} (h : ∀ x, x ∈ es ↔ x ∈ fs) (e : Ev) : cov es e = cov fs e := by
  unfold cov
  rw [under_same h]
theorem size_perm {es fs : List Ev} (h : es.Perm fs) : size es = size fs := by
  unfold size
  have hk : kept es = kept fs := by
    funext e
    unfold kept
    rw [cnt_same (fun x => h.mem_iff), cov_same (fun x => h.mem_iff)]
  rw [hk]
  exact (h.filter _).length_eq
theorem isW_same {es fs : List Ev} (h : ∀ x, x ∈ es ↔ x ∈ fs) (key : ByteArray) (k : Int) (l : Nat) : isW es key k l = isW fs key k l := by
  funext x
  unfold isW
  rw [cnt_same h]
theorem fl_perm {es fs : List Ev} (h : es.Perm fs) (key : ByteArray) (l : Nat) : (fl es es key l).Perm (fl fs fs key l) := by
  unfold fl
  rw [isW_same (fun x => h.mem_iff)]
  exact h.filter _
theorem al_perm {es fs : List Ev} (h : es.Perm fs) (key : ByteArray) (l : Nat) : (al es es key l).Perm (al fs fs key l) := by
  unfold al
  rw [isW_same (fun x => h.mem_iff)]
  exact h.filter _
theorem set_perm {xs ys : List Ev} (h : xs.Perm ys) : set xs = set ys := by
  unfold set vals
  rw [sortS_of_perm (h.map _)]
theorem has_iff (xs : List Ev) : has xs = true ↔ xs ≠ [] := by
  constructor
  · rintro h rfl; cases h
  · intro h
    have hl : 0 < (stamps xs).length := by rw [stamps, List.length_map]; exact List.length_pos_iff.2 h
    obtain ⟨k, hk, hlast, _⟩ := Stp.last_spec hl
    unfold has
    rw [hlast]; simp
/-- Of unlike stamps the latest one stands for the field, in whichever order they come. -/
theorem field_perm {xs ys : List Ev} (h : xs.Perm ys) (hs : ∀ x ∈ xs, ∀ y ∈ xs, x.stp = y.stp → x.v = y.v) : has xs = has ys ∧ field xs = field ys := by
  by_cases h0 : xs = []
  · subst h0
    rw [List.nil_perm.1 h]
    exact ⟨rfl, rfl⟩
  · have hl : 0 < (stamps xs).length := by rw [stamps, List.length_map]; exact List.length_pos_iff.2 h0
    obtain ⟨j, hj, hm⟩ := Stp.mx_is hl
    have hjx : j < xs.length := by simpa [stamps] using hj
    have hn : ∀ i, (hi : i < xs.length) → Stp.nth (stamps xs) i = (xs[i]).stp := fun i hi => by
      rw [Stp.nth_lt (by simpa [stamps] using hi)]
      simp [stamps]
    have hmax : ∀ y ∈ xs, Stp.less (xs[j]).stp y.stp = false := fun y hy => by
      obtain ⟨i, hi, rfl⟩ := List.mem_iff_getElem.1 hy
      rw [← hn j hjx, ← hm, ← hn i hi]
      exact Stp.mx_max (by simpa [stamps] using hi)
    have a := field_of (List.getElem_mem hjx) hmax (fun y hy e => hs y hy _ (List.getElem_mem _) e)
    have b := field_of (h.mem_iff.1 (List.getElem_mem hjx)) (fun y hy => hmax y (h.mem_iff.2 hy)) (fun y hy e => hs y (h.mem_iff.2 hy) _ (List.getElem_mem _) e)
    exact ⟨by rw [a.1, b.1], by rw [a.2, b.2]⟩
theorem keys_perm {es fs : List Ev} (h : es.Perm fs) : keys es = keys fs := by
  unfold keys
  refine sortS_of_perm ?_
  refine (List.perm_ext_iff_of_nodup (nodup_nub _) (nodup_nub _)).2 fun key => ?_
  have hc : cnt es = cnt fs := by funext e; exact cnt_same (fun x => h.mem_iff) e
  rw [mem_nub, mem_nub, hc]
  exact ((h.filter _).map _).mem_iff
/-- THE ORDER DOES NOT MATTER, where no two Sets of a field have one stamp and unlike values. -/
theorem book_perm {es fs : List Ev} (h : es.Perm fs) (hs : ∀ x ∈ es, ∀ y ∈ es, x.k = 3 → y.k = 3 → x.stp = y.stp → x.v = y.v) : book es = book fs := by
  unfold book
  rw [keys_perm h]
  apply List.map_congr_left
  intro key _
  have hf : ∀ l, has (fl es es key l) = has (fl fs fs key l) ∧ field (fl es es key l) = field (fl fs fs key l) := fun l =>
    field_perm (fl_perm h key l) (fun x hx y hy e => hs x (List.mem_filter.1 hx).1 y (List.mem_filter.1 hy).1 ((isW_iff _ _ _ _ _).1 (List.mem_filter.1 hx).2).2.1 ((isW_iff _ _ _ _ _).1 (List.mem_filter.1 hy).2).2.1 e)
  unfold ct
  rw [(hf 0).1, (hf 1).1, (hf 0).2, (hf 1).2, set_perm (al_perm h key 0), set_perm (al_perm h key 1)]
end Bk
end Go.Proofs.Ytolpfchnfhdhkaa
