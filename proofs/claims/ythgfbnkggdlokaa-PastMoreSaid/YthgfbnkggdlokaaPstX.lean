/-
  One event more, that has seen all, plain.
-/
import Derived.Test.YthgfbnkggdlokaaPstV
namespace Go.Proofs.Ythgfbnkggdlokaa
open Go.RowKit
set_option maxRecDepth 100000
set_option maxRecDepth 100000
namespace Pst
theorem ck_ext {a b : Ck} (h : ∀ r, r < 5 → a.get r = b.get r) : a = b := by
  rw [Ck.ext_iff']
  exact ⟨h 0 (by omega), h 1 (by omega), h 2 (by omega), h 3 (by omega), h 4 (by omega)⟩
theorem isIn_made {es : List Ev} {H : Nat → Ck} (I : Inv es H) {r : Nat} (hr : r < 5) (j : Int) : isIn (tally es) r j = true ↔ 1 ≤ j ∧ j ≤ (H r).get r := by
  rw [isIn_tally]
  constructor
  · rintro ⟨e, he, h1, h2, _⟩
    obtain ⟨p, g1, g2, g3, g4⟩ := I.own e he
    obtain rfl : p = r := by omega
    omega
  · rintro ⟨h1, h2⟩
    obtain ⟨e, he, g1, g2⟩ := I.has r r hr hr j h1 h2
    exact ⟨e, he, g1, g2, by simp [Ck.rep]; omega⟩
theorem whole_made {es : List Ev} {H : Nat → Ck} (I : Inv es H) {c : Ck} (h : Whole (tally es) c) {r : Nat} (hr : r < 5) : c.get r = (H r).get r := by
  obtain ⟨h0, h1, h2⟩ := h r hr
  have hl := (I.low r r hr).1
  apply Int.le_antisymm
  · rcases Int.lt_or_le 0 (c.get r) with k | k
    · exact ((isIn_made I hr _).1 (h1 _ (by omega) (Int.le_refl _))).2
    · omega
  · rcases Int.lt_or_le (c.get r) ((H r).get r) with k | k
    · have := (isIn_made I hr (c.get r + 1)).2 ⟨by omega, by omega⟩
      rw [this] at h2; cases h2
    · exact k
theorem whole_unique {ms : List (Mk × Unit)} {c d : Ck} (h : Whole ms c) (g : Whole ms d) : c = d := ck_ext fun r hr => by
  obtain ⟨h0, h1, h2⟩ := h r hr
  obtain ⟨g0, g1, g2⟩ := g r hr
  rcases Int.lt_trichotomy (c.get r) (d.get r) with k | k | k
  · have := g1 (c.get r + 1) (by omega) (by omega)
    rw [this] at h2; cases h2
  · exact k
  · have := h1 (d.get r + 1) (by omega) (by omega)
    rw [this] at g2; cases g2
theorem made_all {es : List Ev} {H : Nat → Ck} (M : Made es H) (I : Inv es H) {k : Nat} (hk : k < 5) : ∃ H', Made es H' ∧ (∀ q, q ≠ k → H' q = H q) ∧ ∀ r, r < 5 → (H' k).get r = (H r).get r := by
  have key : ∀ j, j ≤ 5 → ∃ H', Made es H' ∧ (∀ q, q ≠ k → H' q = H q) ∧ (∀ r, r < 5 → (H' k).get r ≤ (H r).get r ∧ (H k).get r ≤ (H' k).get r) ∧ ∀ q, q < j → ∀ r, r < 5 → (H q).get r ≤ (H' k).get r := by
    intro j
    induction j with
    | zero => exact fun _ => ⟨H, M, fun _ _ => rfl, fun r hr => ⟨I.le_own hk hr, Int.le_refl _⟩, fun q hq => by omega⟩
    | succ j ih =>
      intro hj
      obtain ⟨H', h1, h2, h3, h4⟩ := ih (by omega)
      by_cases hjk : j = k
      · refine ⟨H', h1, h2, h3, fun q hq r hr => ?_⟩
        rcases Nat.lt_succ_iff_lt_or_eq.1 hq with h | rfl
        · exact h4 q h r hr
        · rw [hjk]; exact (h3 r hr).2
      · refine ⟨_, .sync h1 k j hk (by omega), fun q hq => ?_, fun r hr => ?_, fun q hq r hr => ?_⟩
        · unfold upd; rw [if_neg hq]; exact h2 q hq
        · unfold upd
          rw [if_pos rfl, Ck.get_join, h2 j hjk]
          have a := h3 r hr
          have b := I.le_own (q := j) (r := r) (by omega) hr
          rw [Int.max_def]
          split <;> omega
        · unfold upd
          rw [if_pos rfl, Ck.get_join, h2 j hjk]
          rcases Nat.lt_succ_iff_lt_or_eq.1 hq with h | rfl
          · exact Int.le_trans (h4 q h r hr) (Int.le_max_left _ _)
          · exact Int.le_max_right _ _
  obtain ⟨H', h1, h2, h3, h4⟩ := key 5 (Nat.le_refl _)
  exact ⟨H', h1, h2, fun r hr => Int.le_antisymm (h3 r hr).1 (h4 r hr r hr)⟩
def sumTo (c : Ck) : Nat → Int
  | 0 => 0
  | k + 1 => sumTo c k + c.get k
def diag (H : Nat → Ck) : Int := (H 0).get 0 + (H 1).get 1 + (H 2).get 2 + (H 3).get 3 + (H 4).get 4
theorem made_sum {es : List Ev} {H : Nat → Ck} (h : Made es H) : es.length ≤ 1000 → diag H = es.length := by
  induction h with
  | nil => intro _; rfl
  | @sync es H h r f hr hf ih =>
    intro hl
    have I := made_inv h hl
    rw [← ih hl]
    have key : ∀ q, q < 5 → (upd H r (Ck.join (H r) (H f)) q).get q = (H q).get q := fun q hq => by
      unfold upd
      split
      · rename_i e
        subst e
        rw [Ck.get_join]
        have := I.le_own (q := f) (r := q) hf hq
        rw [Int.max_def]
        split <;> omega
      · rfl
    unfold diag
    rw [key 0 (by omega), key 1 (by omega), key 2 (by omega), key 3 (by omega), key 4 (by omega)]
  | @edit es H h r x hr hx ih =>
    intro hl
    rw [List.length_append, List.length_singleton] at hl ⊢
    have h1 := ih (by omega)
    have key : ∀ q, q < 5 → (upd H r ((H r).set r ((H r).get r + 1)) q).get q = (H q).get q + if q = r then 1 else 0 := fun q hq => by
      unfold upd
      split
      · rename_i e
        subst e
        rw [get_set _ _ _ _ hq, if_pos rfl]
      · omega
    unfold diag at h1 ⊢
    rw [key 0 (by omega), key 1 (by omega), key 2 (by omega), key 3 (by omega), key 4 (by omega)]
    match r, hr with
    | 0, _ | 1, _ | 2, _ | 3, _ | 4, _ => simp; omega
/-- What is asked of one event more. -/
theorem more {es : List Ev} {H : Nat → Ck} (M : Made es H) (hl : es.length ≤ 900) {c : Ck} (hc : Whole (tally es) c) {k : Nat} (hk : k < 5) (e : Ev)
    (he : e = ⟨k, c.get k + 1, c, hgt es c, 1, ⟨#[99, 121]⟩, 0, ⟨#[]⟩⟩) :
    RightP (es ++ [e]) ∧ OrdP (es ++ [e]) ∧ (∀ d, Whole (tally (es ++ [e])) d → d = c.set k (c.get k + 1)) ∧ (∀ x : Ev, x = { e with h := hgt es c + 1 } → ¬ RightP (es ++ [x])) ∧ sumTo c 5 = es.length ∧ (∀ r, r < 5 → 0 ≤ c.get r ∧ c.get r ≤ es.length) ∧ (0 ≤ hgt es c ∧ hgt es c ≤ 1000) := by
  have I := made_inv M (by omega)
  obtain ⟨H', M', hH, hK⟩ := made_all M I hk
  have hcr : ∀ r, r < 5 → c.get r = (H r).get r := fun r hr => whole_made I hc hr
  have hcK : H' k = c := ck_ext fun r hr => by rw [hK r hr, hcr r hr]
  have hx : Tx.Fits ⟨1, ⟨#[99, 121]⟩, 0, ⟨#[]⟩⟩ := ⟨by decide, by decide, by decide, fun _ => ⟨rfl, rfl⟩, fun h => absurd (.inl rfl) h⟩
  have M2 := Made.edit M' k _ hk hx
  have hev : evOf es H' k ⟨1, ⟨#[99, 121]⟩, 0, ⟨#[]⟩⟩ = e := by rw [he, evOf, hcK]
  rw [hev] at M2
  have hl2 : (es ++ [e]).length ≤ 1000 := by simp; omega
  have I2 := made_inv M2 hl2
  have hlow := fun r hr => I.low r r hr
  have htop := top_len (n := es.length) (by omega) I.hi c
  have hh : hgt es c = top es c + 1 := by rw [hgt_top, wrap_small htop.1 (by omega)]
  refine ⟨I2.R, I2.O, fun d hd => ck_ext fun r hr => ?_, fun x hxe R => ?_, ?_, fun r hr => by rw [hcr r hr]; exact hlow r hr, by omega⟩
  · rw [whole_made I2 hd hr, get_set _ _ _ _ hr]
    unfold upd
    split
    · rename_i e1
      rw [e1, hcK, get_set _ _ _ _ hk, if_pos rfl]
    · rename_i e1
      rw [hH r e1, hcr r hr]
  · have h1 := R.high x (by simp)
    have hX : x.r = k ∧ x.n = c.get k + 1 ∧ x.c = c ∧ x.h = hgt es c + 1 := by rw [hxe, he]; exact ⟨rfl, rfl, rfl, rfl⟩
    have hno : ¬ hs c x := fun hh2 => by
      have := (hs_at hk hX.1).1 hh2
      omega
    have h2 : hgt (es ++ [x]) c = hgt es c := hgt_eq fun y hy => by
      rw [List.mem_append, List.mem_singleton]
      constructor
      · rintro (h | rfl)
        · exact h
        · exact absurd hy hno
      · exact .inl
    rw [hX.2.2.1, h2, hX.2.2.2] at h1
    omega
  · have := made_sum M (by omega)
    rw [← this]
    unfold diag
    simp only [sumTo]
    rw [hcr 0 (by omega), hcr 1 (by omega), hcr 2 (by omega), hcr 3 (by omega), hcr 4 (by omega)]
    omega
end Pst
end Go.Proofs.Ythgfbnkggdlokaa
