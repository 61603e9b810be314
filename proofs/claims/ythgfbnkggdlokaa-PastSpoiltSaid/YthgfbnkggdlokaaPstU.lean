/-
  What replicas make is a right past, in order.
-/
import Derived.Test.YthgfbnkggdlokaaPstT
namespace Go.Proofs.Ythgfbnkggdlokaa
open Go.RowKit
set_option maxRecDepth 100000
set_option maxRecDepth 100000
namespace Pst

theorem fits_edit {x : Ed} (h : Tx.Fits x) : Tx.edit x = 0 := by
  unfold Tx.edit
  have h1 := h.k1
  have h5 := h.k5
  rw [if_neg (by omega), h.key]
  simp only [ne_eq, not_true_eq_false, if_false]
  by_cases hk : x.k = 1 ∨ x.k = 2
  · rw [if_pos hk]
    obtain ⟨a, b⟩ := h.bare hk
    unfold Tx.bareOf
    rw [a, b]
    rfl
  · rw [if_neg hk]
    obtain ⟨a, b, c⟩ := h.full hk
    unfold Tx.fullOf Tx.label Tx.value
    simp [a, b, c]
theorem get_at (H : Nat → Ck) (e : Ev) {r : Nat} (h : e.r = r) : (H e.r.toNat).get e.r.toNat = (H r).get r := by rw [h]; rfl
/-- What holds of what replicas made, and of what each of them has. -/
structure Inv (es : List Ev) (H : Nat → Ck) : Prop where
  low : ∀ q j, j < 5 → 0 ≤ (H q).get j ∧ (H q).get j ≤ es.length
  has : ∀ q r : Nat, q < 5 → r < 5 → ∀ j : Int, 1 ≤ j → j ≤ (H q).get r → ∃ e ∈ es, e.r = r ∧ e.n = j
  cl : ∀ q, q < 5 → ∀ e ∈ es, hs (H q) e → Ck.le e.c (H q) = true
  own : ∀ e ∈ es, ∃ r : Nat, e.r = r ∧ r < 5 ∧ 1 ≤ e.n ∧ e.n ≤ (H r).get r
  hi : ∀ e ∈ es, 1 ≤ e.h ∧ e.h ≤ es.length
  R : RightP es
  O : OrdP es
theorem Inv.le_own {es : List Ev} {H : Nat → Ck} (I : Inv es H) {q r : Nat} (hq : q < 5) (hr : r < 5) : (H q).get r ≤ (H r).get r := by
  rcases Int.lt_or_le 0 ((H q).get r) with h | h
  · obtain ⟨e, he, h1, h2⟩ := I.has q r hq hr _ (by omega) (Int.le_refl _)
    obtain ⟨r', g1, _, _, g2⟩ := I.own e he
    obtain rfl : r = r' := by omega
    omega
  · have := (I.low r r hr).1
    omega
theorem nth_append_left {xs ys : List Ev} {i : Nat} (h : i < xs.length) : Ev.nth (xs ++ ys) i = Ev.nth xs i := by
  unfold Ev.nth
  rw [List.getD_eq_getElem?_getD, List.getD_eq_getElem?_getD, List.getElem?_append_left h]
theorem nth_append_one (xs : List Ev) (x : Ev) : Ev.nth (xs ++ [x]) xs.length = x := by
  unfold Ev.nth
  rw [List.getD_eq_getElem?_getD, List.getElem?_append_right (Nat.le_refl _)]
  simp
theorem ord_snoc {es : List Ev} {x : Ev} (h : OrdP es) (hx : Sees es x.c) : OrdP (es ++ [x]) := fun i hi => by
  rw [List.length_append, List.length_singleton] at hi
  rcases Nat.lt_succ_iff_lt_or_eq.1 hi with h1 | rfl
  · rw [nth_append_left h1, List.take_append_of_le_length (Nat.le_of_lt h1)]
    exact h i h1
  · rw [nth_append_one, List.take_left]
    exact hx
theorem sees_of {es : List Ev} {c : Ck} (h : ∀ r : Nat, r < 5 → ∀ j : Int, 1 ≤ j → j ≤ c.get r → ∃ e ∈ es, e.r = r ∧ e.n = j) : Sees es c := fun r hr j h1 h2 => by
  obtain ⟨e, he, g1, g2⟩ := h r hr j h1 h2
  exact (isIn_tally es r j).2 ⟨e, he, g1, g2, by simp [Ck.rep]; omega⟩
theorem sees_to {es : List Ev} {c : Ck} (h : Sees es c) {r : Nat} (hr : r < 5) {j : Int} (h1 : 1 ≤ j) (h2 : j ≤ c.get r) : ∃ e ∈ es, e.r = r ∧ e.n = j := by
  obtain ⟨e, he, g1, g2, _⟩ := (isIn_tally es r j).1 (h r hr j h1 h2)
  exact ⟨e, he, g1, g2⟩
theorem le_set {c : Ck} {k : Nat} {x : Int} (h : c.get k ≤ x) : Ck.le c (c.set k x) = true := by
  rw [Ck.le_iff]
  intro j hj
  rw [get_set _ _ _ _ hj]
  split
  · rename_i e; rw [e]; exact h
  · exact Int.le_refl _
theorem top_len {es : List Ev} {n : Int} (h0 : 0 ≤ n) (h : ∀ e ∈ es, 1 ≤ e.h ∧ e.h ≤ n) (c : Ck) : 0 ≤ top es c ∧ top es c ≤ n := by
  by_cases hx : ∃ e ∈ es, hs c e
  · obtain ⟨e, he, hh⟩ := hx
    obtain ⟨x, hx, _, hxe⟩ := top_in he hh
    have := h x hx
    omega
  · rw [top_none (fun e he hh => hx ⟨e, he, hh⟩)]; omega
theorem made_inv {es : List Ev} {H : Nat → Ck} (h : Made es H) : es.length ≤ 1000 → Inv es H := by
  induction h with
  | nil =>
    intro _
    refine ⟨made_low .nil, fun q r hq hr j h1 h2 => ?_, fun _ _ _ he => (by cases he), fun _ he => (by cases he), fun _ he => (by cases he), ⟨fun _ he => (by cases he), List.Pairwise.nil, fun _ he => (by cases he), fun _ he => (by cases he)⟩, fun i hi => (by cases hi)⟩
    exfalso
    match r, hr with
    | 0, _ | 1, _ | 2, _ | 3, _ | 4, _ => simp [Ck.get, Ck.zero] at h2; omega
  | @sync es H h r f hr hf ih =>
    intro hl
    have I := ih hl
    refine ⟨made_low (.sync h r f hr hf), fun q p hq hp j h1 h2 => ?_, fun q hq e he hh => ?_, fun e he => ?_, I.hi, I.R, I.O⟩
    · unfold upd at h2
      split at h2
      · rw [Ck.get_join, Int.max_def] at h2
        split at h2
        · exact I.has f p hf hp j h1 h2
        · exact I.has r p hr hp j h1 h2
      · exact I.has q p hq hp j h1 h2
    · unfold upd at hh ⊢
      split at hh
      · rename_i hqr
        rw [if_pos hqr]
        unfold hs at hh
        rw [Ck.has_join, Bool.or_eq_true] at hh
        rcases hh with hh | hh
        · exact le_trans (I.cl r hr e he hh) (Ck.le_join_left _ _)
        · exact le_trans (I.cl f hf e he hh) (Ck.le_join_right _ _)
      · rename_i hqr
        rw [if_neg hqr]
        exact I.cl q hq e he hh
    · obtain ⟨p, g1, g2, g3, g4⟩ := I.own e he
      refine ⟨p, g1, g2, g3, ?_⟩
      unfold upd
      split
      · rename_i hpr
        rw [Ck.get_join]
        subst hpr
        exact Int.le_trans g4 (Int.le_max_left _ _)
      · exact g4
  | @edit es H h r x hr hx ih =>
    intro hl
    have hlen : (es ++ [evOf es H r x]).length = es.length + 1 := by simp
    have I := ih (by omega)
    have hlow := I.low r r hr
    have XR : (evOf es H r x).r = r := rfl
    have XN : (evOf es H r x).n = (H r).get r + 1 := rfl
    have XC : (evOf es H r x).c = H r := rfl
    have XH : (evOf es H r x).h = hgt es (H r) := rfl
    have XE : (evOf es H r x).ed = x := rfl
    have htop := top_len (n := es.length) (by omega) I.hi (H r)
    have hX : (evOf es H r x).h = top es (H r) + 1 := by rw [XH, hgt_top, wrap_small htop.1 (by omega)]
    generalize hxe : evOf es H r x = X at *
    have hnot : ∀ q, q < 5 → ¬ hs (H q) X := fun q hq hh => by
      have h1 := (hs_at hr XR).1 hh
      have h2 := I.le_own hq hr
      omega
    have hnotc : ∀ e ∈ es, ¬ hs e.c X := fun e he hh => by
      have h1 := (hs_at hr XR).1 hh
      obtain ⟨s, k1, k2, k3, _⟩ := I.R.seen e he r hr (e.c.get r) (by omega) (Int.le_refl _)
      obtain ⟨p, g1, g2, g3, g4⟩ := I.own s k1
      obtain rfl : p = r := by omega
      omega
    have hgtE : ∀ c, ¬ hs c X → hgt (es ++ [X]) c = hgt es c := fun c hc => hgt_eq fun e he => by
      rw [List.mem_append, List.mem_singleton]
      constructor
      · rintro (h | rfl)
        · exact h
        · exact absurd he hc
      · exact .inl
    have hG : Ev.may X = 0 := by
      rw [Ev.good_iff]
      refine ⟨by omega, by omega, by omega, by omega, fun j hj => ?_, ?_, by omega, by omega, by rw [XE]; exact fits_edit hx⟩
      · rw [XC]
        have := I.low r j hj
        omega
      · rw [XC, XR, XN]; simp
    refine ⟨by rw [← hxe]; exact made_low (.edit h r x hr hx), fun q p hq hp j h1 h2 => ?_, fun q hq e he hh => ?_, fun e he => ?_, fun e he => ?_, ⟨fun e he => ?_, ?_, fun e he p hp j h1 h2 => ?_, fun e he => ?_⟩, ord_snoc I.O (by rw [XC]; exact sees_of fun p hp j h1 h2 => I.has r p hr hp j h1 h2)⟩
    · unfold upd at h2
      split at h2
      · rw [get_set _ _ _ _ hp] at h2
        split at h2
        · rename_i hpr
          rcases Int.lt_or_le ((H r).get r) j with h3 | h3
          · exact ⟨X, by simp, by omega, by omega⟩
          · subst hpr
            obtain ⟨e, he, g⟩ := I.has p p hp hp j h1 h3
            exact ⟨e, by simp [he], g⟩
        · obtain ⟨e, he, g⟩ := I.has r p hr hp j h1 h2
          exact ⟨e, by simp [he], g⟩
      · obtain ⟨e, he, g⟩ := I.has q p hq hp j h1 h2
        exact ⟨e, by simp [he], g⟩
    · unfold upd at hh ⊢
      rw [List.mem_append, List.mem_singleton] at he
      split at hh
      · rename_i hqr
        rw [if_pos hqr]
        have hls := le_set (c := H r) (k := r) (x := (H r).get r + 1) (by omega)
        rcases he with he | rfl
        · obtain ⟨p, g1, g2, g3, g4⟩ := I.own e he
          refine le_trans (I.cl r hr e he ?_) hls
          have g5 := (hs_at g2 g1).1 hh
          rw [get_set _ _ _ _ g2] at g5
          refine (hs_at g2 g1).2 ⟨g3, ?_⟩
          split at g5
          · rename_i hpr; subst hpr; exact g4
          · exact g5.2
        · rw [XC]; exact hls
      · rename_i hqr
        rw [if_neg hqr]
        rcases he with he | rfl
        · exact I.cl q hq e he hh
        · exact absurd hh (hnot q hq)
    · rw [List.mem_append, List.mem_singleton] at he
      rcases he with he | rfl
      · obtain ⟨p, g1, g2, g3, g4⟩ := I.own e he
        refine ⟨p, g1, g2, g3, ?_⟩
        unfold upd
        split
        · rename_i hpr
          subst hpr
          rw [get_set _ _ _ _ g2, if_pos rfl]; omega
        · exact g4
      · refine ⟨r, XR, hr, by omega, ?_⟩
        unfold upd
        rw [if_pos rfl, get_set _ _ _ _ hr, if_pos rfl]; omega
    · rw [hlen]
      rw [List.mem_append, List.mem_singleton] at he
      rcases he with he | rfl
      · have := I.hi e he; omega
      · omega
    · rw [List.mem_append, List.mem_singleton] at he
      rcases he with he | rfl
      · exact I.R.may e he
      · exact hG
    · unfold One
      rw [List.pairwise_append]
      refine ⟨I.R.one, by simp, fun a ha b hb hab => ?_⟩
      obtain rfl : b = X := by simpa using hb
      obtain ⟨p, g1, g2, g3, g4⟩ := I.own a ha
      have k3 : a.r = b.r ∧ a.n = b.n := (Mk.ext_iff' _ _).1 hab
      obtain rfl : p = r := by omega
      omega
    · rw [List.mem_append, List.mem_singleton] at he
      rcases he with he | rfl
      · obtain ⟨s, k1, k2⟩ := I.R.seen e he p hp j h1 h2
        exact ⟨s, by simp [k1], k2⟩
      · rw [XC] at h2 ⊢
        obtain ⟨s, k1, k2, k3⟩ := I.has r p hr hp j h1 h2
        exact ⟨s, by simp [k1], k2, k3, I.cl r hr s k1 ((hs_at hp k2).2 ⟨by omega, by omega⟩)⟩
    · rw [List.mem_append, List.mem_singleton] at he
      rcases he with he | rfl
      · rw [hgtE _ (hnotc e he)]; exact I.R.high e he
      · rw [XC, hgtE _ (hnot r hr)]; exact XH
theorem made_right {es : List Ev} {H : Nat → Ck} (h : Made es H) (hl : es.length ≤ 1000) : RightP es := (made_inv h hl).R
theorem made_ord {es : List Ev} {H : Nat → Ck} (h : Made es H) (hl : es.length ≤ 1000) : OrdP es := (made_inv h hl).O
end Pst
end Go.Proofs.Ythgfbnkggdlokaa
