/-
  Plain facts on numbers as bytes, more: what was put is taken, and nothing else is.
-/
import Derived.Test.YthgfbnkggdlokaaPlain
namespace Go.Proofs.Ythgfbnkggdlokaa
namespace Pl

def val : List Nat → Nat
  | [] => 0
  | x :: xs => x % 128 + 128 * val xs
/-- The bytes of a number: each but the last one has 128 more, and more than one do not end in 0. -/
def Form : List Nat → Prop
  | [] => False
  | [x] => x < 128
  | x :: y :: ys => 128 ≤ x ∧ x < 256 ∧ Form (y :: ys) ∧ 0 < val (y :: ys)

theorem form_cons {x : Nat} {xs : List Nat} (h1 : 128 ≤ x) (h2 : x < 256) (h3 : Form xs) (h4 : 0 < val xs) : Form (x :: xs) := by
  cases xs with
  | nil => exact absurd h3 (by simp [Form])
  | cons y ys => exact ⟨h1, h2, h3, h4⟩

theorem form_val_put (k : Nat) : ∀ n, n < 128 ^ (k + 1) → Form (putF k n) ∧ val (putF k n) = n := by
  induction k with
  | zero => intro n h; simp [putF, Form, val]; omega
  | succ k ih =>
    intro n h
    rw [putF]
    split
    · rename_i hlt; simp [Form, val]; omega
    · rename_i hge
      have hd : n / 128 < 128 ^ (k + 1) := by
        rw [Nat.div_lt_iff_lt_mul (by omega)]; rw [Nat.pow_succ] at h; exact h
      obtain ⟨f, v⟩ := ih _ hd
      refine ⟨form_cons (by omega) (by omega) f (by rw [v]; omega), ?_⟩
      rw [val, v]; omega
theorem form_put {n : Nat} (hn : n < 18446744073709551616) : Form (put n) := (form_val_put 10 n (by simp; omega)).1
theorem val_put {n : Nat} (hn : n < 18446744073709551616) : val (put n) = n := (form_val_put 10 n (by simp; omega)).2

theorem put_val : ∀ xs, Form xs → val xs < 18446744073709551616 → put (val xs) = xs := by
  intro xs
  induction xs with
  | nil => intro h; exact absurd h (by simp [Form])
  | cons x xs ih =>
    intro h hv
    cases xs with
    | nil => simp only [Form] at h; simp only [val]; rw [put_lo (by omega)]; simp; omega
    | cons y ys =>
      obtain ⟨h1, h2, h3, h4⟩ := h
      have e := ih h3 (by rw [val] at hv; omega)
      rw [val] at hv ⊢
      have a1 : ¬ (x % 128 + 128 * val (y :: ys)) < 128 := by omega
      rw [put_hi a1 hv, show (x % 128 + 128 * val (y :: ys)) / 128 = val (y :: ys) by omega, e]
      congr 1
      omega

theorem nth_zero (x : Nat) (xs : List Nat) : nth (x :: xs) 0 = x := rfl
theorem nth_succ (x : Nat) (xs : List Nat) (j : Nat) : nth (x :: xs) (j + 1) = nth xs j := by simp [nth]

/-- Of the bytes of a number the last one alone is below 128, and is 0 only if it is the only one. -/
theorem form_at : ∀ xs, Form xs → 0 < xs.length ∧ (∀ j, j < xs.length - 1 → ¬ nth xs j < 128) ∧ nth xs (xs.length - 1) < 128 ∧ (nth xs (xs.length - 1) = 0 → xs.length = 1) ∧ nth xs (xs.length - 1) * 128 ^ (xs.length - 1) ≤ val xs := by
  intro xs
  induction xs with
  | nil => intro h; exact absurd h (by simp [Form])
  | cons x xs ih =>
    intro h
    cases xs with
    | nil =>
      simp only [Form] at h
      refine ⟨by simp, fun j hj => by simp at hj, by simpa [nth] using h, fun _ => rfl, ?_⟩
      simp [nth, val]; omega
    | cons y ys =>
      obtain ⟨h1, h2, h3, h4⟩ := h
      obtain ⟨a, b, c, d, e⟩ := ih h3
      have hl : (x :: y :: ys).length - 1 = ((y :: ys).length - 1) + 1 := by simp
      refine ⟨by simp, fun j hj => ?_, ?_, ?_, ?_⟩
      · match j with
        | 0 => rw [nth_zero]; omega
        | j + 1 => rw [nth_succ]; exact b j (by simp at hj ⊢; omega)
      · rw [hl, nth_succ]; exact c
      · rw [hl, nth_succ]
        intro h0
        have := d h0
        cases ys with
        | nil => simp [nth] at h0; simp [val, h0] at h4
        | cons z zs => simp at this
      · rw [hl, nth_succ, val, Nat.pow_succ, ← Nat.mul_assoc]
        omega

theorem form_len {n : Nat} (hn : n < 18446744073709551616) : (put n).length ≤ 10 ∧ ((put n).length = 10 → nth (put n) 9 = 1) := by
  obtain ⟨a, b, c, d, e⟩ := form_at _ (form_put hn)
  rw [val_put hn] at e
  have hl := put_len n
  have h11 : (put n).length ≠ 11 := fun h => by
    rw [h] at c d e
    have : nth (put n) (11 - 1) ≠ 0 := fun h0 => by have := d h0; omega
    have h2 : 1 * 128 ^ (11 - 1) ≤ nth (put n) (11 - 1) * 128 ^ (11 - 1) := Nat.mul_le_mul_right _ (by omega)
    simp at h2 e; omega
  refine ⟨by omega, fun h => ?_⟩
  rw [h] at d e
  have h0 : nth (put n) (10 - 1) ≠ 0 := fun h0 => by have := d h0; omega
  have h2 : nth (put n) (10 - 1) < 2 := by
    rcases Nat.lt_or_ge (nth (put n) (10 - 1)) 2 with h | h
    · exact h
    · have : 2 * 128 ^ (10 - 1) ≤ nth (put n) (10 - 1) * 128 ^ (10 - 1) := Nat.mul_le_mul_right _ h
      simp at this e; omega
  simp at h0 h2; omega

theorem lastOk_put {n : Nat} (hn : n < 18446744073709551616) : lastOk (put n) = true := by
  obtain ⟨a, b, c, d, e⟩ := form_at _ (form_put hn)
  obtain ⟨f, g⟩ := form_len hn
  unfold lastOk
  split
  · rename_i h; simpa using d h
  · rcases Nat.lt_or_ge (put n).length 10 with h | h
    · simp [h]
    · have h10 : (put n).length = 10 := by omega
      rw [h10]; simpa using g h10

/-- Where the number at the beginning ends. -/
theorem vlen_spec {xs : List Nat} (h : vlen xs ≠ 0) : (∀ j, j < vlen xs - 1 → ¬ nth xs j < 128) ∧ nth xs (vlen xs - 1) < 128 := by
  have hv : (xs.take 10).findIdx (· < 128) < (xs.take 10).length := by
    unfold vlen at h
    split at h
    · assumption
    · exact absurd rfl h
  have e : vlen xs = (xs.take 10).findIdx (· < 128) + 1 := by unfold vlen; rw [if_pos hv]
  rw [e]
  simp only [Nat.add_sub_cancel]
  generalize hk : (xs.take 10).findIdx (· < 128) = k at hv
  rw [List.findIdx_eq hv] at hk
  have hl : k < 10 ∧ k < xs.length := by simp at hv; omega
  refine ⟨fun j hj => ?_, ?_⟩
  · have := hk.2 j hj
    have hj2 : j < xs.length := by omega
    simpa [nth, List.getD_eq_getElem?_getD, hj2] using this
  · have := hk.1
    simpa [nth, List.getD_eq_getElem?_getD, hl.2] using this

def valN (xs : List Nat) : Nat → Nat
  | 0 => 0
  | k + 1 => valN xs k + nth xs k % 128 * 128 ^ k
theorem valN_lt (xs : List Nat) (k : Nat) : valN xs k < 128 ^ k := by
  induction k with
  | zero => simp [valN]
  | succ k ih =>
    rw [valN, Nat.pow_succ]
    have : nth xs k % 128 * 128 ^ k ≤ 127 * 128 ^ k := Nat.mul_le_mul_right _ (by omega)
    omega
theorem valTo_step (xs : List Nat) (k : Nat) (e : valTo xs k = valN xs k) (hs : nth xs k % 128 * 128 ^ k < 18446744073709551616) : valTo xs (k + 1) = valN xs (k + 1) := by
  have hp : 128 ^ k = 2 ^ (7 * k) := by rw [Nat.pow_mul]
  rw [valTo, valN, e, Nat.shiftLeft_eq, ← hp, Nat.mod_eq_of_lt hs]
  have hlt := valN_lt xs k
  rw [hp] at hlt ⊢
  rw [← Nat.shiftLeft_eq, Nat.or_comm, ← Nat.shiftLeft_add_eq_or_of_lt hlt, Nat.add_comm]
theorem valTo_eq (xs : List Nat) (k : Nat) (hk : k ≤ 9) : valTo xs k = valN xs k := by
  induction k with
  | zero => rfl
  | succ k ih =>
    refine valTo_step xs k (ih (by omega)) ?_
    have h1 : nth xs k % 128 * 128 ^ k ≤ 127 * 128 ^ k := Nat.mul_le_mul_right _ (by omega)
    have h2 : 128 ^ k ≤ 128 ^ 8 := Nat.pow_le_pow_right (by omega) (by omega)
    simp at h2; omega
theorem valTo_ten (xs : List Nat) (h : nth xs 9 % 128 ≤ 1) : valTo xs 10 = valN xs 10 := by
  refine valTo_step xs 9 (valTo_eq xs 9 (by omega)) ?_
  have h1 : nth xs 9 % 128 * 128 ^ 9 ≤ 1 * 128 ^ 9 := Nat.mul_le_mul_right _ h
  simp at h1 ⊢; omega
theorem valN_cons (x : Nat) (xs : List Nat) (k : Nat) : valN (x :: xs) (k + 1) = x % 128 + 128 * valN xs k := by
  induction k with
  | zero => simp [valN, nth]
  | succ k ih => rw [valN, ih, valN, nth_succ, Nat.pow_succ, Nat.mul_add, Nat.add_assoc]; congr 2; rw [← Nat.mul_assoc, Nat.mul_comm]
theorem valN_val (xs : List Nat) : valN xs xs.length = val xs := by
  induction xs with
  | nil => rfl
  | cons x xs ih => rw [List.length_cons, valN_cons, ih, val]

/-- Bytes that look like a number's, and that end as they must, are a number's. -/
theorem form_of {xs : List Nat} (h0 : xs ≠ []) (h256 : ∀ j, nth xs j < 256) (hb : ∀ j, j < xs.length - 1 → ¬ nth xs j < 128) (hl : nth xs (xs.length - 1) < 128) (hz : nth xs (xs.length - 1) = 0 → xs.length = 1) : Form xs := by
  induction xs with
  | nil => exact absurd rfl h0
  | cons x xs ih =>
    cases xs with
    | nil => simpa [Form, nth] using hl
    | cons y ys =>
      have hlen : (x :: y :: ys).length - 1 = ((y :: ys).length - 1) + 1 := by simp
      have hf : nth (y :: ys) ((y :: ys).length - 1) ≠ 0 := fun h => by
        rw [hlen, nth_succ] at hz
        have := hz h; simp at this
      have f : Form (y :: ys) := ih (by simp) (fun j => by have := h256 (j + 1); rwa [nth_succ] at this)
        (fun j hj => by have := hb (j + 1) (by simp at hj ⊢; omega); rwa [nth_succ] at this) (by rwa [hlen, nth_succ] at hl) (fun h => absurd h hf)
      refine form_cons ?_ ?_ f ?_
      · have := hb 0 (by simp); rw [nth_zero] at this; omega
      · have := h256 0; rwa [nth_zero] at this
      · have h := (form_at _ f).2.2.2.2
        have h1 : 1 * 128 ^ ((y :: ys).length - 1) ≤ nth (y :: ys) ((y :: ys).length - 1) * 128 ^ ((y :: ys).length - 1) := Nat.mul_le_mul_right _ (by omega)
        have h2 : 0 < 128 ^ ((y :: ys).length - 1) := Nat.pow_pos (by omega)
        omega

/-- What is taken are the bytes of that number. -/
theorem take_good {xs : List Nat} (h256 : ∀ j, nth xs j < 256) (hv : vlen xs ≠ 0) (hok : lastOk (xs.take (vlen xs)) = true) :
    valTo (xs.take (vlen xs)) (vlen xs) = val (xs.take (vlen xs)) ∧ val (xs.take (vlen xs)) < 18446744073709551616 ∧ put (val (xs.take (vlen xs))) = xs.take (vlen xs) := by
  obtain ⟨s1, s2⟩ := vlen_spec hv
  have hle := vlen_le xs
  generalize hu : vlen xs = u at *
  have hlen : (xs.take u).length = u := by simp; omega
  have hn : ∀ j, j < u → nth (xs.take u) j = nth xs j := fun j hj => by rw [nth_take, if_pos hj]
  have hlast : nth (xs.take u) (u - 1) = nth xs (u - 1) := hn _ (by omega)
  unfold lastOk at hok
  rw [hlen, hlast] at hok
  have hz : nth xs (u - 1) = 0 → u = 1 := fun h => by rw [if_pos h] at hok; simpa using hok
  have f : Form (xs.take u) := form_of (fun h => by rw [h] at hlen; simp at hlen; omega) (fun j => by rw [nth_take]; have := h256 j; split <;> omega)
    (fun j hj => by rw [hlen] at hj; rw [hn j (by omega)]; exact s1 j hj) (by rw [hlen, hlast]; exact s2) (by rw [hlen, hlast]; exact hz)
  have h10 : u = 10 → nth (xs.take u) 9 % 128 ≤ 1 := fun h => by
    subst h
    rw [hn 9 (by omega)]
    by_cases h0 : nth xs (10 - 1) = 0
    · have := hz h0; omega
    · rw [if_neg h0] at hok
      simp at hok
      simp [hok]
  have e : valTo (xs.take u) u = val (xs.take u) := by
    rw [← valN_val, hlen]
    rcases Nat.lt_or_ge u 10 with h | h
    · exact valTo_eq _ _ (by omega)
    · have : u = 10 := by omega
      subst this
      exact valTo_ten _ (h10 rfl)
  have hlt : val (xs.take u) < 18446744073709551616 := by rw [← e]; exact valTo_lt _ _
  exact ⟨e, hlt, put_val _ f hlt⟩

theorem take_ways {xs : List Nat} (h256 : ∀ j, nth xs j < 256) :
    (∃ n, n < 18446744073709551616 ∧ vlen xs ≠ 0 ∧ take xs = (n, vlen xs, 0) ∧ put n = xs.take (vlen xs)) ∨ take xs = (0, 0, 2) ∨ take xs = (0, 0, 3) := by
  unfold take
  split
  · split <;> simp
  · rename_i hv
    split
    · rename_i hok
      obtain ⟨e, hlt, hp⟩ := take_good h256 hv hok
      exact .inl ⟨_, hlt, hv, by rw [e], hp⟩
    · simp

/-- What was put is taken, whatever stands behind it. -/
theorem take_put {n : Nat} (hn : n < 18446744073709551616) (ys : List Nat) : take (put n ++ ys) = (n, (put n).length, 0) := by
  obtain ⟨a, b, c, d, e⟩ := form_at _ (form_put hn)
  obtain ⟨f, g⟩ := form_len hn
  have hnt : ∀ j, j < (put n).length → nth (put n ++ ys) j = nth (put n) j := fun j hj => by simp [nth, List.getD_eq_getElem?_getD, List.getElem?_append_left hj]
  have hv : vlen (put n ++ ys) = (put n).length := by
    have := vlen_some (put n ++ ys) ((put n).length - 1) (by omega) (by simp; omega) (fun j hj => by rw [hnt j (by omega)]; exact b j hj) (by rw [hnt _ (by omega)]; exact c)
    omega
  have ht : (put n ++ ys).take (put n).length = put n := by simp
  unfold take
  rw [hv, ht, if_neg (by omega), if_pos (lastOk_put hn)]
  congr 1
  have hx : valTo (put n) (put n).length = val (put n) := by
    rw [← valN_val]
    rcases Nat.lt_or_ge (put n).length 10 with h | h
    · exact valTo_eq _ _ (by omega)
    · have h10 : (put n).length = 10 := by omega
      rw [h10]
      exact valTo_ten _ (by rw [g h10]; omega)
  rw [hx, val_put hn]

/-- None's bytes are the beginning of another one's. -/
theorem put_apart {a b : Nat} (ha : a < 18446744073709551616) (hb : b < 18446744073709551616) : ((put a).take (min (put a).length (put b).length) = (put b).take (min (put a).length (put b).length)) ↔ a = b := by
  constructor
  · intro h
    have key : ∀ {a b : Nat}, a < 18446744073709551616 → b < 18446744073709551616 → (put a).length ≤ (put b).length → put a = (put b).take (put a).length → a = b := by
      intro a b ha hb _ h
      have e1 := take_put ha ((put b).drop (put a).length)
      have e2 := take_put hb []
      rw [List.append_nil] at e2
      have : put a ++ (put b).drop (put a).length = put b := by
        conv => lhs; lhs; rw [h]
        exact List.take_append_drop _ _
      rw [this, e2] at e1
      exact (Prod.mk.inj e1).1.symm
    rcases Nat.le_total (put a).length (put b).length with hl | hl
    · rw [Nat.min_eq_left hl, List.take_length] at h
      exact key ha hb hl h
    · rw [Nat.min_eq_right hl, List.take_length] at h
      exact (key hb ha hl h.symm).symm
  · rintro rfl; rfl
/-- The other way to take a number: work it out, put it, and look whether the bytes are the same. -/
theorem rtake_true {xs : List Nat} {k m : Nat} (h256 : ∀ j, nth xs j < 256) (hv : vlen xs = k + 1) (hm : val (xs.take (k + 1)) % 18446744073709551616 = m) (he : put m = xs.take (k + 1)) : take xs = (m, k + 1, 0) := by
  have hlt : m < 18446744073709551616 := by omega
  have hok : lastOk (xs.take (vlen xs)) = true := by rw [hv, ← he]; exact lastOk_put hlt
  obtain ⟨e1, e2, e3⟩ := take_good h256 (by omega) hok
  unfold take
  rw [if_neg (by omega), if_pos hok, e1]
  rw [hv] at e2 ⊢
  rw [Nat.mod_eq_of_lt e2] at hm
  rw [hm]
theorem rtake_false {xs : List Nat} {k m : Nat} (h256 : ∀ j, nth xs j < 256) (hv : vlen xs = k + 1) (hm : val (xs.take (k + 1)) % 18446744073709551616 = m) (he : ¬ put m = xs.take (k + 1)) : take xs = (0, 0, 3) := by
  unfold take
  rw [if_neg (by omega), if_neg]
  intro hok
  obtain ⟨e1, e2, e3⟩ := take_good h256 (by omega) hok
  rw [hv] at e2 e3
  rw [Nat.mod_eq_of_lt e2] at hm
  rw [hm] at e3
  exact he e3
end Pl
theorem putF_len_iff (j : Nat) : ∀ n k, n < 128 ^ (j + 1) → (k < (Pl.putF j n).length ↔ k = 0 ∨ 128 ^ k ≤ n) := by
  induction j with
  | zero =>
    intro n k h
    simp [Pl.putF]
    intro h2
    rcases Nat.eq_zero_or_pos k with h | h0
    · exact h
    · have : 128 ^ 1 ≤ 128 ^ k := Nat.pow_le_pow_right (by omega) h0
      simp at h this; omega
  | succ j ih =>
    intro n k h
    rw [Pl.putF]
    split
    · rename_i hlt
      simp
      intro h2
      rcases Nat.eq_zero_or_pos k with h | h0
      · exact h
      · have : 128 ^ 1 ≤ 128 ^ k := Nat.pow_le_pow_right (by omega) h0
        simp at this; omega
    · rename_i hge
      have hd : n / 128 < 128 ^ (j + 1) := by
        rw [Nat.div_lt_iff_lt_mul (by omega)]; rw [Nat.pow_succ] at h; exact h
      cases k with
      | zero => simp
      | succ k =>
        have := ih (n / 128) k hd
        rw [List.length_cons, Nat.add_lt_add_iff_right, this, Nat.le_div_iff_mul_le (by omega), ← Nat.pow_succ]
        constructor
        · rintro (rfl | h)
          · right; simp; omega
          · right; exact h
        · rintro (h | h)
          · omega
          · right; exact h
theorem put_len_iff {n k : Nat} (hn : n < 18446744073709551616) (hk : 1 ≤ k) : 0 < n / 2 ^ (7 * k) ↔ k < (Pl.put n).length := by
  have := putF_len_iff 10 n k (by simp; omega)
  unfold Pl.put
  rw [this, Nat.div_pos_iff, Nat.pow_mul]
  have : 0 < (2 ^ 7) ^ k := Nat.pow_pos (by omega)
  constructor
  · rintro ⟨_, h⟩; right; exact h
  · rintro (h | h)
    · omega
    · exact ⟨this, h⟩

namespace Pl
end Pl
end Go.Proofs.Ythgfbnkggdlokaa
