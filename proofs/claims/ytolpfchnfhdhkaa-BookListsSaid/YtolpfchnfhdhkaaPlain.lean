/-
  Plain facts on numbers as bytes (seven bits a byte), with no program: the bytes of a number, and the number at the beginning of bytes.
-/
import Derived.Test.YtolpfchnfhdhkaaBase
namespace Go.Proofs.Ytolpfchnfhdhkaa
namespace Pl

/-- The bytes of n, seven bits a byte, at most k + 1 of them. -/
def putF : Nat → Nat → List Nat
  | 0, n => [n]
  | k + 1, n => if n < 128 then [n] else (n % 128 + 128) :: putF k (n / 128)
def put (n : Nat) : List Nat := putF 10 n

theorem putF_more (k : Nat) : ∀ n, n < 128 ^ (k + 1) → putF (k + 1) n = putF k n := by
  induction k with
  | zero => intro n h; simp [putF]; omega
  | succ k ih =>
    intro n h
    rw [putF]
    conv => rhs; rw [putF]
    have hd : n / 128 < 128 ^ (k + 1) := by
      rw [Nat.div_lt_iff_lt_mul (by omega)]; rw [Nat.pow_succ] at h; exact h
    rw [ih _ hd]

theorem put_lo {n : Nat} (h : n < 128) : put n = [n] := by simp [put, putF, h]
theorem put_hi {n : Nat} (h : ¬ n < 128) (hn : n < 18446744073709551616) : put n = (n % 128 + 128) :: put (n / 128) := by
  have e : putF 10 (n / 128) = putF 9 (n / 128) := putF_more 9 _ (by simp; omega)
  unfold put
  rw [e]
  conv => lhs; rw [putF, if_neg h]
theorem putF_len (k : Nat) : ∀ n, (putF k n).length ≤ k + 1 := by
  induction k with
  | zero => intro n; simp [putF]
  | succ k ih =>
    intro n
    rw [putF]
    split
    · simp
    · have := ih (n / 128); simp; omega
theorem put_len (n : Nat) : (put n).length ≤ 11 := putF_len 10 n

theorem putF_lt (k : Nat) : ∀ n, n < 128 ^ (k + 1) → ∀ x ∈ putF k n, x < 256 := by
  induction k with
  | zero => intro n h x hx; simp [putF] at hx; omega
  | succ k ih =>
    intro n h x hx
    rw [putF] at hx
    split at hx
    · simp at hx; omega
    · have hd : n / 128 < 128 ^ (k + 1) := by
        rw [Nat.div_lt_iff_lt_mul (by omega)]; rw [Nat.pow_succ] at h; exact h
      rcases List.mem_cons.1 hx with rfl | hx
      · omega
      · exact ih _ hd x hx
theorem put_lt {n : Nat} (hn : n < 18446744073709551616) : ∀ x ∈ put n, x < 256 := putF_lt 10 n (by simp; omega)

/-- How many bytes the number at the beginning has; 0, if none of the first ten is a last one. -/
def vlen (xs : List Nat) : Nat := if (xs.take 10).findIdx (· < 128) < (xs.take 10).length then (xs.take 10).findIdx (· < 128) + 1 else 0
def lastOk (xs : List Nat) : Bool := if nth xs (xs.length - 1) = 0 then decide (xs.length = 1) else decide (xs.length < 10) || decide (nth xs (xs.length - 1) = 1)
/-- The number of bytes, as the program works it out. -/
def valTo (xs : List Nat) : Nat → Nat
  | 0 => 0
  | k + 1 => valTo xs k ||| ((nth xs k % 128) <<< (7 * k)) % 18446744073709551616
def take (xs : List Nat) : Nat × Nat × Nat :=
  if vlen xs = 0 then (0, 0, if xs.length < 10 then 2 else 3)
  else if lastOk (xs.take (vlen xs)) then (valTo (xs.take (vlen xs)) (vlen xs), vlen xs, 0) else (0, 0, 3)
theorem vlen_some (xs : List Nat) (k : Nat) (hk : k < 10) (hl : k < xs.length) (hb : ∀ j, j < k → ¬ nth xs j < 128) (h : nth xs k < 128) : vlen xs = k + 1 := by
  have hlen : k < (xs.take 10).length := by simp; omega
  have e : (xs.take 10).findIdx (· < 128) = k := by
    rw [List.findIdx_eq hlen]
    refine ⟨?_, fun j hj => ?_⟩
    · simpa [nth, List.getD_eq_getElem?_getD, hl] using h
    · have := hb j hj
      simpa [nth, List.getD_eq_getElem?_getD, show j < xs.length by omega] using this
  unfold vlen
  rw [e, if_pos hlen]
theorem vlen_none (xs : List Nat) (hb : ∀ j, j < 10 → j < xs.length → ¬ nth xs j < 128) : vlen xs = 0 := by
  unfold vlen
  rw [if_neg]
  rw [List.findIdx_lt_length]
  rintro ⟨x, hx, h⟩
  obtain ⟨j, hj, rfl⟩ := List.getElem_of_mem hx
  have h2 : j < 10 ∧ j < xs.length := by simp at hj; omega
  have := hb j h2.1 h2.2
  simp [nth, List.getD_eq_getElem?_getD, h2.2] at this h
  omega
theorem vlen_le (xs : List Nat) : vlen xs ≤ xs.length ∧ vlen xs ≤ 10 := by
  unfold vlen
  have : (xs.take 10).length = min 10 xs.length := by simp
  split <;> omega
theorem valTo_lt (xs : List Nat) (k : Nat) : valTo xs k < 18446744073709551616 := by
  induction k with
  | zero => simp [valTo]
  | succ k ih =>
    rw [valTo]
    exact Nat.or_lt_two_pow (n := 64) ih (Nat.mod_lt _ (by decide))
end Pl
end Go.Proofs.Ytolpfchnfhdhkaa
