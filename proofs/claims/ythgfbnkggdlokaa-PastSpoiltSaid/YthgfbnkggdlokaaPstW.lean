/-
  Parts of a right past that are closed under what is below, plain.
-/
import Derived.Test.YthgfbnkggdlokaaPstV
namespace Go.Proofs.Ythgfbnkggdlokaa
open Go.RowKit
set_option maxRecDepth 100000
set_option maxRecDepth 100000
namespace Pst
theorem right_closed {es D : List Ev} (R : RightP es) (hD : ∀ e ∈ D, e ∈ es) (h1 : One D) (hc : ∀ e ∈ D, ∀ s ∈ es, hs e.c s → s ∈ D) : RightP D := by
  refine ⟨fun e he => R.may e (hD e he), h1, fun e he r hr j a b => ?_, fun e he => ?_⟩
  · obtain ⟨s, k1, k2, k3, k4⟩ := R.seen e (hD e he) r hr j a b
    exact ⟨s, hc e he s k1 ((hs_at hr k2).2 ⟨by omega, by omega⟩), k2, k3, k4⟩
  · rw [R.high e (hD e he)]
    exact hgt_eq fun s hh => ⟨fun h => hc e he s h hh, fun h => hD s h⟩
theorem ord_iff (es : List Ev) : OrdP es ↔ ∀ l x m, es = l ++ x :: m → Sees l x.c := by
  constructor
  · intro h l x m e
    have h1 := h l.length (by rw [e]; simp)
    subst e
    have h2 : Ev.nth (l ++ x :: m) l.length = x := by
      unfold Ev.nth
      rw [List.getD_eq_getElem?_getD, List.getElem?_append_right (Nat.le_refl _)]
      simp
    rw [h2, List.take_left] at h1
    exact h1
  · intro h i hi
    refine h (es.take i) (Ev.nth es i) (es.drop (i + 1)) ?_
    have e : Ev.nth es i = es[i] := by simp [Ev.nth, hi]
    rw [e, ← List.drop_eq_getElem_cons hi, List.take_append_drop]
theorem ord_filter {es : List Ev} (O : OrdP es) (p : Ev → Bool) (hc : ∀ e ∈ es.filter p, ∀ s ∈ es, hs e.c s → s ∈ es.filter p) : OrdP (es.filter p) := by
  rw [ord_iff] at O ⊢
  intro l' x m' e
  obtain ⟨l1, l2, hes, h1, h2⟩ := List.filter_eq_append_iff.1 e
  obtain ⟨m1, m2, hm, h3, h4, _⟩ := List.filter_eq_cons_iff.1 h2
  have hsees := O (l1 ++ m1) x m2 (by rw [hes, hm]; simp)
  have hx : x ∈ es.filter p := by rw [e]; simp
  refine sees_of fun r hr j a b => ?_
  obtain ⟨s, k1, k2, k3⟩ := sees_to hsees hr a b
  have ks : s ∈ es := by
    rw [hes, hm]
    simp only [List.mem_append, List.mem_cons] at k1 ⊢
    rcases k1 with k | k
    · exact .inl k
    · exact .inr (.inl k)
  have kf := hc x hx s ks ((hs_at hr k2).2 ⟨by omega, by omega⟩)
  have hp := (List.mem_filter.1 kf).2
  refine ⟨s, ?_, k2, k3⟩
  rcases List.mem_append.1 k1 with k | k
  · rw [← h1]; exact List.mem_filter.2 ⟨k, hp⟩
  · exact absurd hp (by simpa using h3 s k)
theorem right_take {es : List Ev} (R : RightP es) (O : OrdP es) (k : Nat) : RightP (es.take k) ∧ OrdP (es.take k) := by
  have hO := (ord_iff es).1 O
  have split : ∀ l x m, es.take k = l ++ x :: m → ∃ m', es = l ++ x :: m' := fun l x m e => ⟨m ++ es.drop k, by
    have h := List.take_append_drop k es
    rw [e, List.append_assoc, List.cons_append] at h
    exact h.symm⟩
  refine ⟨right_closed R (fun e he => List.mem_of_mem_take he) (List.Pairwise.sublist (List.take_sublist k es) R.one) (fun e he s hs' hh => ?_), (ord_iff _).2 fun l x m e => ?_⟩
  · obtain ⟨l, m, hlm⟩ := List.append_of_mem he
    obtain ⟨m', hm'⟩ := split l e m hlm
    have g := (has_iff _ _ _).1 hh
    obtain ⟨r, hr, hr5⟩ : ∃ r : Nat, s.r = r ∧ r < 5 := ⟨s.r.toNat, by omega, by omega⟩
    have g2 := (hs_at hr5 hr).1 hh
    obtain ⟨y, k1, k2, k3⟩ := sees_to (hO l e m' hm') hr5 g2.1 g2.2
    have ky : y = s := one_eq R.one (by rw [hm']; simp [k1]) hs' ((Mk.ext_iff' _ _).2 ⟨by show y.r = s.r; omega, k3⟩)
    rw [hlm, ← ky]
    simp [k1]
  · obtain ⟨m', hm'⟩ := split l x m e
    exact hO l x m' hm'
/-- Below an event of a past, or that event. -/
def dn (x : Ev) (e : Ev) : Bool := decide (e.mk' = x.mk') || Ck.has x.c e.r e.n
theorem dn_closed {es : List Ev} (R : RightP es) {x : Ev} (hx : x ∈ es) : ∀ e ∈ es.filter (dn x), ∀ s ∈ es, hs e.c s → s ∈ es.filter (dn x) := fun e he s hs' hh => by
  obtain ⟨h1, h2⟩ := List.mem_filter.1 he
  refine List.mem_filter.2 ⟨hs', ?_⟩
  unfold dn at h2 ⊢
  rw [Bool.or_eq_true, decide_eq_true_eq] at h2 ⊢
  refine .inr ?_
  rcases h2 with h2 | h2
  · rw [← one_eq R.one h1 hx h2]; exact hh
  · exact up_trans R h1 hx hh h2
theorem right_dn {es : List Ev} (R : RightP es) (O : OrdP es) {x : Ev} (hx : x ∈ es) : RightP (es.filter (dn x)) ∧ OrdP (es.filter (dn x)) :=
  ⟨right_closed R (fun _ he => (List.mem_filter.1 he).1) (List.Pairwise.sublist List.filter_sublist R.one) (dn_closed R hx), ord_filter O _ (dn_closed R hx)⟩
theorem dn_at {es : List Ev} (R : RightP es) {i k : Nat} (hi : i < es.length) (hk : k < es.length) : dn (Ev.nth es k) (Ev.nth es i) = (decide (i = k) || Ck.has (Ev.nth es k).c (Ev.nth es i).r (Ev.nth es i).n) := by
  unfold dn
  congr 1
  by_cases h : i = k
  · subst h; simp
  · simp [h, one_nth R.one hi hk h]
theorem filter_take {es : List Ev} (p : Ev → Bool) {i : Nat} (hi : i < es.length) : (es.take (i + 1)).filter p = (es.take i).filter p ++ if p (Ev.nth es i) then [Ev.nth es i] else [] := by
  rw [List.take_succ_eq_append_getElem hi, List.filter_append]
  have e : Ev.nth es i = es[i] := by simp [Ev.nth, hi]
  rw [e]
  by_cases h : p es[i] = true
  · simp [h]
  · simp [h]
theorem filter_len {es : List Ev} (p : Ev → Bool) (i : Nat) : ((es.take i).filter p).length ≤ es.length := by
  have h1 := List.length_filter_le p (es.take i)
  rw [List.length_take] at h1
  omega
end Pst
end Go.Proofs.Ythgfbnkggdlokaa
