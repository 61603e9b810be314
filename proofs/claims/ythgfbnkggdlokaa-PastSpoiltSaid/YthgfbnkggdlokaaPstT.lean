/-
  Pasts, plain: what past.Right tells is what the document asks; what replicas make is a right past, in order.
-/
import Derived.Test.YthgfbnkggdlokaaPstM
import Derived.Test.YthgfbnkggdlokaaPstD
namespace Go.Proofs.Ythgfbnkggdlokaa
open Go.RowKit
set_option maxRecDepth 100000
set_option maxRecDepth 100000
namespace Pst

theorem has_iff (c : Ck) (r n : Int) : Ck.has c r n = true ↔ (0 ≤ r ∧ r < 5) ∧ 1 ≤ n ∧ n ≤ c.get r.toNat := by
  unfold Ck.has Ck.rep
  simp
theorem le_trans {a b c : Ck} (h1 : Ck.le a b = true) (h2 : Ck.le b c = true) : Ck.le a c = true := by
  rw [Ck.le_iff] at *
  exact fun j hj => Int.le_trans (h1 j hj) (h2 j hj)
theorem le_refl (a : Ck) : Ck.le a a = true := (Ck.le_iff a a).2 fun _ _ => Int.le_refl _
theorem has_mono {a b : Ck} {r n : Int} (h : Ck.has a r n = true) (hl : Ck.le a b = true) : Ck.has b r n = true := by
  rw [has_iff] at *
  rw [Ck.le_iff] at hl
  have := hl r.toNat (by omega)
  exact ⟨h.1, h.2.1, by omega⟩

/-! heights -/
abbrev hs (c : Ck) (e : Ev) : Prop := Ck.has c e.r e.n = true
theorem topS_gen (c : Ck) : ∀ (es : List Ev) (s : Int × Bool), (topS c s es = s ∨ ∃ e ∈ es, hs c e ∧ topS c s es = (e.h, true)) ∧ (∀ e ∈ es, hs c e → (topS c s es).2 = true ∧ e.h ≤ (topS c s es).1) ∧ (s.2 = true → (topS c s es).2 = true ∧ s.1 ≤ (topS c s es).1)
  | [], s => ⟨.inl rfl, fun _ h => (by cases h), fun h => ⟨h, Int.le_refl _⟩⟩
  | x :: es, s => by
    rw [topS]
    by_cases hx : hs c x ∧ (s.2 = false ∨ s.1 < x.h)
    · rw [if_pos hx]
      obtain ⟨i1, i2, i3⟩ := topS_gen c es (x.h, true)
      obtain ⟨j1, j2⟩ := i3 rfl
      refine ⟨.inr ?_, fun e he hh => ?_, fun h2 => ⟨j1, ?_⟩⟩
      · rcases i1 with h | ⟨e, he, hh, h⟩
        · exact ⟨x, by simp, hx.1, h⟩
        · exact ⟨e, by simp [he], hh, h⟩
      · rcases List.mem_cons.1 he with rfl | he
        · exact ⟨j1, j2⟩
        · exact i2 e he hh
      · rcases hx.2 with h | h
        · rw [h] at h2; cases h2
        · have : x.h ≤ (topS c (x.h, true) es).1 := j2
          omega
    · rw [if_neg hx]
      obtain ⟨i1, i2, i3⟩ := topS_gen c es s
      refine ⟨?_, fun e he hh => ?_, i3⟩
      · rcases i1 with h | ⟨e, he, hh, h⟩
        · exact .inl h
        · exact .inr ⟨e, by simp [he], hh, h⟩
      · rcases List.mem_cons.1 he with rfl | he
        · have h2 : s.2 = true ∧ e.h ≤ s.1 := by
            by_cases h3 : s.2 = true
            · exact ⟨h3, Int.not_lt.1 fun h4 => hx ⟨hh, .inr h4⟩⟩
            · exact absurd ⟨hh, .inl (by simpa using h3)⟩ hx
          obtain ⟨j1, j2⟩ := i3 h2.1
          exact ⟨j1, by omega⟩
        · exact i2 e he hh
def top (es : List Ev) (c : Ck) : Int := (topS c (0, false) es).1
theorem top_ge {es : List Ev} {c : Ck} {e : Ev} (he : e ∈ es) (h : hs c e) : e.h ≤ top es c := ((topS_gen c es (0, false)).2.1 e he h).2
theorem top_in {es : List Ev} {c : Ck} {e : Ev} (he : e ∈ es) (h : hs c e) : ∃ x ∈ es, hs c x ∧ top es c = x.h := by
  obtain ⟨i1, i2, _⟩ := topS_gen c es (0, false)
  rcases i1 with h1 | ⟨x, hx, hh, h1⟩
  · have := (i2 e he h).1
    rw [h1] at this; cases this
  · exact ⟨x, hx, hh, by unfold top; rw [h1]⟩
theorem top_none {es : List Ev} {c : Ck} (h : ∀ e ∈ es, ¬ hs c e) : top es c = 0 := by
  obtain ⟨i1, _, _⟩ := topS_gen c es (0, false)
  rcases i1 with h1 | ⟨x, hx, hh, h1⟩
  · unfold top; rw [h1]
  · exact absurd hh (h x hx)
theorem top_le_of {l m : List Ev} {c : Ck} (hl : ∃ e ∈ l, hs c e) (h : ∀ e ∈ l, hs c e → ∃ x ∈ m, hs c x ∧ e.h ≤ x.h) : top l c ≤ top m c := by
  obtain ⟨e, he, hh⟩ := hl
  obtain ⟨x, hx, hhx, hxe⟩ := top_in he hh
  obtain ⟨y, hy, hhy, hle⟩ := h x hx hhx
  have := top_ge hy hhy
  omega
/-- The greatest height hangs on those alone that a clock has. -/
theorem top_eq {l m : List Ev} {c : Ck} (h1 : ∀ e ∈ l, hs c e → ∃ x ∈ m, hs c x ∧ e.h ≤ x.h) (h2 : ∀ e ∈ m, hs c e → ∃ x ∈ l, hs c x ∧ e.h ≤ x.h) : top l c = top m c := by
  by_cases hl : ∃ e ∈ l, hs c e
  · have hm : ∃ e ∈ m, hs c e := by
      obtain ⟨e, he, hh⟩ := hl
      obtain ⟨x, hx, hhx, _⟩ := h1 e he hh
      exact ⟨x, hx, hhx⟩
    exact Int.le_antisymm (top_le_of hl h1) (top_le_of hm h2)
  · have hm : ∀ e ∈ m, ¬ hs c e := fun e he hh => by
      obtain ⟨x, hx, hhx, _⟩ := h2 e he hh
      exact hl ⟨x, hx, hhx⟩
    rw [top_none (fun e he hh => hl ⟨e, he, hh⟩), top_none hm]
theorem hgt_top (es : List Ev) (c : Ck) : hgt es c = wrap64 (top es c + 1) := rfl
theorem hgt_eq {l m : List Ev} {c : Ck} (h : ∀ e, hs c e → (e ∈ l ↔ e ∈ m)) : hgt l c = hgt m c := by
  rw [hgt_top, hgt_top, top_eq (fun e he hh => ⟨e, (h e hh).1 he, hh, Int.le_refl _⟩) (fun e he hh => ⟨e, (h e hh).2 he, hh, Int.le_refl _⟩)]
theorem wrap_small {x : Int} (h0 : 0 ≤ x) (h1 : x ≤ 16777216) : wrap64 (x + 1) = x + 1 := by unfold wrap64; omega

/-! marks -/
def One (es : List Ev) : Prop := es.Pairwise fun a b => a.mk' ≠ b.mk'
theorem one_eq {es : List Ev} (h : One es) {a b : Ev} (ha : a ∈ es) (hb : b ∈ es) (e : a.mk' = b.mk') : a = b := by
  induction es with
  | nil => cases ha
  | cons x es ih =>
    unfold One at h
    rw [List.pairwise_cons] at h
    rcases List.mem_cons.1 ha with rfl | ha' <;> rcases List.mem_cons.1 hb with rfl | hb'
    · rfl
    · exact absurd e (h.1 b hb')
    · exact absurd e.symm (h.1 a ha')
    · exact ih h.2 ha' hb'
theorem keyed_miss : ∀ (es : List Ev) (qs : List (Mk × Ev)) (m : Mk), (∀ e ∈ es, e.mk' ≠ m) → Al.get (keyed qs es) m = Al.get qs m
  | [], _, _, _ => rfl
  | x :: es, qs, m, h => by
    rw [keyed, keyed_miss es _ m (fun e he => h e (by simp [he])), Al.get_put, if_neg (fun e => h x (by simp) e.symm)]
theorem keyed_get : ∀ (es : List Ev) (qs : List (Mk × Ev)), One es → ∀ e ∈ es, Al.get (keyed qs es) e.mk' = some e
  | [], _, _, _, he => by cases he
  | x :: es, qs, h, e, he => by
    unfold One at h
    rw [List.pairwise_cons] at h
    rw [keyed]
    rcases List.mem_cons.1 he with rfl | he'
    · rw [keyed_miss es _ _ (fun y hy q => h.1 y hy q.symm), Al.get_put, if_pos rfl]
    · exact keyed_get es _ h.2 e he'
theorem keyed_in : ∀ (es : List Ev) (qs : List (Mk × Ev)) (m : Mk) (e : Ev), Al.get (keyed qs es) m = some e → (e ∈ es ∧ e.mk' = m) ∨ Al.get qs m = some e
  | [], _, _, _, h => .inr h
  | x :: es, qs, m, e, h => by
    rw [keyed] at h
    rcases keyed_in es _ m e h with h1 | h1
    · exact .inl ⟨by simp [h1.1], h1.2⟩
    · rw [Al.get_put] at h1
      split at h1
      · rename_i hm
        injection h1 with h1
        subst h1
        exact .inl ⟨by simp, hm.symm⟩
      · exact .inr h1
theorem keyed_len : ∀ (es : List Ev) (qs : List (Mk × Ev)), (keyed qs es).length ≤ qs.length + es.length
  | [], _ => by simp [keyed]
  | x :: es, qs => by
    have h1 := keyed_len es (Al.put qs x.mk' x)
    rw [Al.put_length] at h1
    rw [keyed, List.length_cons]
    split at h1 <;> omega
theorem keyed_full : ∀ (es : List Ev) (qs : List (Mk × Ev)), qs.length + es.length ≤ (keyed qs es).length ↔ (One es ∧ ∀ e ∈ es, Al.get qs e.mk' = none)
  | [], qs => by simp [keyed, One]
  | x :: es, qs => by
    have ih := keyed_full es (Al.put qs x.mk' x)
    have hle := keyed_len es (Al.put qs x.mk' x)
    have hl := Al.put_length qs x.mk' x
    rw [keyed, List.length_cons]
    unfold One at ih ⊢
    rw [List.pairwise_cons]
    constructor
    · intro h
      have hx : Al.get qs x.mk' = none := by
        cases hq : Al.get qs x.mk' with
        | none => rfl
        | some y => rw [hq] at hl; simp at hl; omega
      rw [hx] at hl
      simp at hl
      obtain ⟨g1, g2⟩ := ih.1 (by omega)
      have g3 : ∀ e ∈ es, e.mk' ≠ x.mk' ∧ Al.get qs e.mk' = none := fun e he => by
        have := g2 e he
        rw [Al.get_put] at this
        split at this
        · cases this
        · rename_i hne; exact ⟨hne, this⟩
      exact ⟨⟨fun e he q => (g3 e he).1 q.symm, g1⟩, fun e he => by
        rcases List.mem_cons.1 he with rfl | he
        · exact hx
        · exact (g3 e he).2⟩
    · rintro ⟨⟨h1, h2⟩, h3⟩
      have hx := h3 x (by simp)
      rw [hx] at hl
      simp at hl
      have := ih.2 ⟨h2, fun e he => by rw [Al.get_put, if_neg (fun q => h1 e he q.symm)]; exact h3 e (by simp [he])⟩
      omega
theorem keyed_one (es : List Ev) : es.length ≤ (keyed [] es).length ↔ One es := by
  have := keyed_full es []
  simp only [List.length_nil, Nat.zero_add] at this
  rw [this]
  exact ⟨fun h => h.1, fun h => ⟨h, fun _ _ => rfl⟩⟩

/-! the last ones that a clock has -/
theorem lasts_spec {qs : List (Mk × Ev)} {c : Ck} : ∀ (k : Nat) (L : List Ev), lasts qs c k = some L →
    (∀ r, r < k → c.get r ≠ 0 → ∃ s, Al.get qs ⟨r, c.get r⟩ = some s ∧ Ck.le s.c c = true ∧ s ∈ L) ∧ (∀ s ∈ L, ∃ r : Nat, r < k ∧ c.get r ≠ 0 ∧ Al.get qs ⟨r, c.get r⟩ = some s ∧ Ck.le s.c c = true)
  | 0, L, h => by
    rw [lasts] at h
    injection h with h
    subst h
    exact ⟨fun r hr => absurd hr (by omega), fun s hs => by cases hs⟩
  | k + 1, L, h => by
    rw [lasts] at h
    cases hL : lasts qs c k with
    | none => rw [hL] at h; cases h
    | some L0 =>
      obtain ⟨i1, i2⟩ := lasts_spec k L0 hL
      rw [hL] at h
      simp only at h
      split at h
      · rename_i h0
        injection h with h
        subst h
        refine ⟨fun r hr h1 => ?_, fun s hs => ?_⟩
        · rcases Nat.lt_succ_iff_lt_or_eq.1 hr with h2 | rfl
          · exact i1 r h2 h1
          · exact absurd h0 h1
        · obtain ⟨r, hr, g⟩ := i2 s hs
          exact ⟨r, by omega, g⟩
      · rename_i h0
        split at h
        · cases h
        · rename_i s hs
          split at h
          · rename_i hl
            injection h with h
            subst h
            refine ⟨fun r hr h1 => ?_, fun x hx => ?_⟩
            · rcases Nat.lt_succ_iff_lt_or_eq.1 hr with h2 | rfl
              · obtain ⟨y, g1, g2, g3⟩ := i1 r h2 h1
                exact ⟨y, g1, g2, by simp [g3]⟩
              · exact ⟨s, hs, hl, by simp⟩
            · rcases List.mem_append.1 hx with hx | hx
              · obtain ⟨r, hr, g⟩ := i2 x hx
                exact ⟨r, by omega, g⟩
              · have : x = s := by simpa using hx
                subst this
                exact ⟨k, by omega, h0, hs, hl⟩
          · cases h
theorem lasts_ex {qs : List (Mk × Ev)} {c : Ck} : ∀ k, (∀ r, r < k → c.get r ≠ 0 → ∃ s, Al.get qs ⟨r, c.get r⟩ = some s ∧ Ck.le s.c c = true) → ∃ L, lasts qs c k = some L
  | 0, _ => ⟨[], rfl⟩
  | k + 1, h => by
    obtain ⟨L, hL⟩ := lasts_ex k fun r hr => h r (by omega)
    by_cases h0 : c.get k = 0
    · exact ⟨L, lasts_zero hL h0⟩
    · obtain ⟨s, h1, h2⟩ := h k (by omega) h0
      exact ⟨L ++ [s], lasts_some hL h0 h1 h2⟩

/-! right pasts -/
structure RightP (es : List Ev) : Prop where
  may : ∀ e ∈ es, Ev.may e = 0
  one : One es
  seen : ∀ e ∈ es, ∀ r : Nat, r < 5 → ∀ j : Int, 1 ≤ j → j ≤ e.c.get r → ∃ s ∈ es, s.r = r ∧ s.n = j ∧ Ck.le s.c e.c = true
  high : ∀ e ∈ es, e.h = hgt es e.c
theorem hs_at {c : Ck} {s : Ev} {r : Nat} (hr : r < 5) (h : s.r = r) : hs c s ↔ 1 ≤ s.n ∧ s.n ≤ c.get r := by
  unfold hs
  rw [has_iff, h]
  simp; omega
theorem top_bound {es : List Ev} {c : Ck} (hm : ∀ e ∈ es, Ev.may e = 0) : 0 ≤ top es c ∧ top es c ≤ 16777216 := by
  by_cases h : ∃ e ∈ es, hs c e
  · obtain ⟨e, he, hh⟩ := h
    obtain ⟨x, hx, _, hxe⟩ := top_in he hh
    have := (Ev.good_iff x).1 (hm x hx)
    have h1 := this.h1
    have h2 := this.hM
    omega
  · rw [top_none (fun e he hh => h ⟨e, he, hh⟩)]; omega
theorem high_gt {L : List Ev} {c : Ck} {l s : Ev} (hm : ∀ e ∈ L, Ev.may e = 0) (hl : l.h = hgt L c) (hsL : s ∈ L) (h : hs c s) : s.h < l.h := by
  have h1 := top_ge hsL h
  have h2 := top_bound (c := c) hm
  rw [hl, hgt_top, wrap_small h2.1 h2.2]
  omega
theorem right_iff (es : List Ev) : right es = true ↔ RightP es := by
  unfold right
  rw [Bool.and_eq_true, decide_eq_true_eq, keyed_one, List.all_eq_true]
  constructor
  · rintro ⟨hone, hall⟩
    have hmay : ∀ e ∈ es, Ev.may e = 0 := fun e he => by
      have := hall e he
      simp only [okB, Bool.and_eq_true, decide_eq_true_eq] at this
      exact this.1
    have hfit : ∀ e ∈ es, ∃ L, lasts (keyed [] es) e.c 5 = some L ∧ e.h = hgt L e.c := fun e he => by
      have := hall e he
      simp only [okB, Bool.and_eq_true, decide_eq_true_eq] at this
      have h2 := this.2
      unfold fits at h2
      split at h2
      · cases h2
      · rename_i L hL
        exact ⟨L, hL, by simpa using h2⟩
    have hget : ∀ (m : Mk) (s : Ev), Al.get (keyed [] es) m = some s → s ∈ es ∧ s.mk' = m := fun m s h => by
      rcases keyed_in es [] m s h with h | h
      · exact h
      · cases h
    have hlast : ∀ e ∈ es, ∀ r : Nat, r < 5 → 1 ≤ e.c.get r → ∃ s ∈ es, s.r = r ∧ s.n = e.c.get r ∧ Ck.le s.c e.c = true ∧ s.c.get r = e.c.get r - 1 := fun e he r hr h1 => by
      obtain ⟨L, hL, _⟩ := hfit e he
      obtain ⟨s, g1, g2, _⟩ := (lasts_spec 5 L hL).1 r hr (by omega)
      obtain ⟨k1, k2⟩ := hget _ _ g1
      have k3 : s.r = r ∧ s.n = e.c.get r := (Mk.ext_iff' _ _).1 k2
      have own := ((Ev.good_iff s).1 (hmay s k1)).own
      rw [k3.1, k3.2] at own
      exact ⟨s, k1, k3.1, k3.2, g2, by simpa using own⟩
    have hseen : ∀ (d : Nat) (e : Ev), e ∈ es → ∀ r : Nat, r < 5 → ∀ j : Int, 1 ≤ j → j ≤ e.c.get r → e.c.get r - j = d → ∃ s ∈ es, s.r = r ∧ s.n = j ∧ Ck.le s.c e.c = true := by
      intro d
      induction d with
      | zero =>
        intro e he r hr j h1 h2 hd
        obtain ⟨s, g1, g2, g3, g4, _⟩ := hlast e he r hr (by omega)
        exact ⟨s, g1, g2, by omega, g4⟩
      | succ d ih =>
        intro e he r hr j h1 h2 hd
        obtain ⟨s, g1, g2, g3, g4, g5⟩ := hlast e he r hr (by omega)
        obtain ⟨x, k1, k2, k3, k4⟩ := ih s g1 r hr j h1 (by omega) (by omega)
        exact ⟨x, k1, k2, k3, le_trans k4 g4⟩
    have hL : ∀ e ∈ es, ∀ L, lasts (keyed [] es) e.c 5 = some L → ∀ s ∈ L, s ∈ es ∧ hs e.c s := fun e he L h s hs' => by
      obtain ⟨r, hr, h0, g1, g2⟩ := (lasts_spec 5 L h).2 s hs'
      obtain ⟨k1, k2⟩ := hget _ _ g1
      have k3 : s.r = r ∧ s.n = e.c.get r := (Mk.ext_iff' _ _).1 k2
      have := ((Ev.good_iff e).1 (hmay e he)).c r hr
      exact ⟨k1, (hs_at hr k3.1).2 ⟨by omega, by omega⟩⟩
    have hgt1 : ∀ (d : Nat) (l s : Ev), l ∈ es → s ∈ es → ∀ r : Nat, r < 5 → s.r = r → 1 ≤ s.n → s.n ≤ l.c.get r → l.c.get r - s.n = d → s.h < l.h := by
      intro d
      induction d with
      | zero =>
        intro l s hl hs' r hr hsr h1 h2 hd
        obtain ⟨L, hLl, hh⟩ := hfit l hl
        obtain ⟨x, g1, g2, g3⟩ := (lasts_spec 5 L hLl).1 r hr (by omega)
        obtain ⟨k1, k2⟩ := hget _ _ g1
        have hx : x = s := one_eq hone k1 hs' (by rw [k2]; exact (Mk.ext_iff' _ _).2 ⟨hsr.symm, by show l.c.get r = s.n; omega⟩)
        subst hx
        exact high_gt (fun e he => hmay e (hL l hl L hLl e he).1) hh g3 (hL l hl L hLl _ g3).2
      | succ d ih =>
        intro l s hl hs' r hr hsr h1 h2 hd
        obtain ⟨L, hLl, hh⟩ := hfit l hl
        obtain ⟨x, g1, g2, g3⟩ := (lasts_spec 5 L hLl).1 r hr (by omega)
        obtain ⟨k1, k2⟩ := hget _ _ g1
        have k3 : x.r = r ∧ x.n = l.c.get r := (Mk.ext_iff' _ _).1 k2
        have own := ((Ev.good_iff x).1 (hmay x k1)).own
        rw [k3.1, k3.2] at own
        simp only [Int.toNat_natCast] at own
        have a1 := ih x s k1 hs' r hr hsr h1 (by omega) (by omega)
        have a2 := high_gt (fun e he => hmay e (hL l hl L hLl e he).1) hh g3 (hL l hl L hLl _ g3).2
        omega
    refine ⟨hmay, hone, fun e he r hr j h1 h2 => hseen (e.c.get r - j).toNat e he r hr j h1 h2 (by omega), fun e he => ?_⟩
    obtain ⟨L, hLe, hh⟩ := hfit e he
    rw [hh, hgt_top, hgt_top, top_eq (fun s hs' hc => ⟨s, (hL e he L hLe s hs').1, hc, Int.le_refl _⟩) (fun s hs' hc => ?_)]
    have g := ((has_iff _ _ _).1 hc)
    obtain ⟨r, hr, hr5⟩ : ∃ r : Nat, s.r = r ∧ r < 5 := ⟨s.r.toNat, by omega, by omega⟩
    have g2 := (hs_at hr5 hr).1 hc
    obtain ⟨x, g1, g3, g4⟩ := (lasts_spec 5 L hLe).1 r hr5 (by omega)
    obtain ⟨k1, k2⟩ := hget _ _ g1
    have k3 : x.r = r ∧ x.n = e.c.get r := (Mk.ext_iff' _ _).1 k2
    refine ⟨x, g4, (hL e he L hLe x g4).2, ?_⟩
    rcases Int.lt_or_le s.n (e.c.get r) with h1 | h1
    · have own := ((Ev.good_iff x).1 (hmay x k1)).own
      rw [k3.1, k3.2] at own
      simp only [Int.toNat_natCast] at own
      have := hgt1 (x.c.get r - s.n).toNat x s k1 hs' r hr5 hr g2.1 (by omega) (by omega)
      omega
    · have hx : x = s := one_eq hone k1 hs' (by rw [k2]; exact (Mk.ext_iff' _ _).2 ⟨hr.symm, by show e.c.get r = s.n; omega⟩)
      rw [hx]; exact Int.le_refl _
  · intro R
    refine ⟨R.one, fun e he => ?_⟩
    have G := (Ev.good_iff e).1 (R.may e he)
    simp only [okB, Bool.and_eq_true, decide_eq_true_eq]
    refine ⟨R.may e he, ?_⟩
    have hget : ∀ s ∈ es, ∀ r : Nat, ∀ n : Int, s.r = r → s.n = n → Al.get (keyed [] es) ⟨r, n⟩ = some s := fun s hs' r n h1 h2 => by
      have := keyed_get es [] R.one s hs'
      rwa [show s.mk' = ⟨r, n⟩ from (Mk.ext_iff' _ _).2 ⟨h1, h2⟩] at this
    obtain ⟨L, hL⟩ := lasts_ex (qs := keyed [] es) (c := e.c) 5 fun r hr h0 => by
      have := G.c r hr
      obtain ⟨s, g1, g2, g3, g4⟩ := R.seen e he r hr (e.c.get r) (by omega) (Int.le_refl _)
      exact ⟨s, hget s g1 r _ g2 g3, g4⟩
    have hin : ∀ s ∈ L, s ∈ es ∧ hs e.c s := fun s hs' => by
      obtain ⟨r, hr, h0, g1, g2⟩ := (lasts_spec 5 L hL).2 s hs'
      rcases keyed_in es [] _ s g1 with ⟨k1, k2⟩ | k
      · have k3 : s.r = r ∧ s.n = e.c.get r := (Mk.ext_iff' _ _).1 k2
        have := G.c r hr
        exact ⟨k1, (hs_at hr k3.1).2 ⟨by omega, by omega⟩⟩
      · cases k
    rw [fits_yes hL, beq_iff_eq, R.high e he, hgt_top, hgt_top]
    rw [top_eq (l := es) (m := L) (fun s hs' hc => ?_) (fun s hs' hc => ⟨s, (hin s hs').1, hc, Int.le_refl _⟩)]
    have g := ((has_iff _ _ _).1 hc)
    obtain ⟨r, hr, hr5⟩ : ∃ r : Nat, s.r = r ∧ r < 5 := ⟨s.r.toNat, by omega, by omega⟩
    have g2 := (hs_at hr5 hr).1 hc
    obtain ⟨x, g1, g3, g4⟩ := (lasts_spec 5 L hL).1 r hr5 (by omega)
    obtain ⟨k1, k2⟩ := hin x g4
    have k3 : x.r = r ∧ x.n = e.c.get r := by
      rcases keyed_in es [] _ x g1 with ⟨_, k⟩ | k
      · exact (Mk.ext_iff' _ _).1 k
      · cases k
    refine ⟨x, g4, k2, ?_⟩
    rcases Int.lt_or_le s.n (e.c.get r) with h1 | h1
    · have own := ((Ev.good_iff x).1 (R.may x k1)).own
      rw [k3.1, k3.2] at own
      simp only [Int.toNat_natCast] at own
      have := high_gt R.may (R.high x k1) hs' ((hs_at hr5 hr).2 ⟨g2.1, by omega⟩)
      omega
    · have hx : x = s := one_eq R.one k1 hs' ((Mk.ext_iff' _ _).2 ⟨by show x.r = s.r; omega, by show x.n = s.n; omega⟩)
      rw [hx]; exact Int.le_refl _
end Pst
end Go.Proofs.Ythgfbnkggdlokaa
