/-
  The walk of VarintShort.
-/
import Derived.Test.YtjmafkdbopdljaaLawsA
namespace Go.Proofs.Ytjmafkdbopdljaa
open Go.RowKit

theorem putF_len_iff (j : Nat) : ∀ n k, n < 128 ^ (j + 1) → (k < (Pl.putF j n).length ↔ k = 0 ∨ 128 ^ k ≤ n) := by
  induction j with
  | zero =>
    intro n k h
    simp [Pl.putF]
    intro h2
    rcases Nat.eq_zero_or_pos k with h | h0
    · exact h
    · have : 128 ^ 1 ≤ 128 ^ k := Nat.pow_le_pow_right (by omega) h0
      simp at h this; omega
  | succ j ih =>
    intro n k h
    rw [Pl.putF]
    split
    · rename_i hlt
      simp
      intro h2
      rcases Nat.eq_zero_or_pos k with h | h0
      · exact h
      · have : 128 ^ 1 ≤ 128 ^ k := Nat.pow_le_pow_right (by omega) h0
        simp at this; omega
    · rename_i hge
      have hd : n / 128 < 128 ^ (j + 1) := by
        rw [Nat.div_lt_iff_lt_mul (by omega)]; rw [Nat.pow_succ] at h; exact h
      cases k with
      | zero => simp
      | succ k =>
        have := ih (n / 128) k hd
        rw [List.length_cons, Nat.add_lt_add_iff_right, this, Nat.le_div_iff_mul_le (by omega), ← Nat.pow_succ]
        constructor
        · rintro (rfl | h)
          · right; simp; omega
          · right; exact h
        · rintro (h | h)
          · omega
          · right; exact h
theorem put_len_iff {n k : Nat} (hn : n < 18446744073709551616) (hk : 1 ≤ k) : 0 < n / 2 ^ (7 * k) ↔ k < (Pl.put n).length := by
  have := putF_len_iff 10 n k (by simp; omega)
  unfold Pl.put
  rw [this, Nat.div_pos_iff, Nat.pow_mul]
  have : 0 < (2 ^ 7) ^ k := Nat.pow_pos (by omega)
  constructor
  · rintro ⟨_, h⟩; right; exact h
  · rintro (h | h)
    · omega
    · exact ⟨this, h⟩

def WantRel (L : Nat) (v i : Value) : Prop := ∃ k : Nat, 1 ≤ k ∧ k ≤ 10 ∧ i = .int .i64 k ∧ v = .int .i64 (min L k : Nat)
def EachRel (L : Nat) (i : Value) : Prop := ∃ k : Nat, k ≤ L ∧ i = .int .i64 k

set_option maxRecDepth 100000 in
set_option maxHeartbeats 400000 in
theorem law_short (a : Nat) (w : World) (ha : a < 18446744073709551616) :
    Calls Try.prog 5 #[.int .u64 a] w fun e w' => e = .returned (.bool true) ∧ Below w.heap.size w w' := by
  obtain ⟨l0, l1, l2, _, _⟩ := Pl.form_at _ (Pl.form_put ha)
  have l10 := (Pl.form_len ha).1
  have LI := Lib.hid (fun k (hk : 1 ≤ k) => put_len_iff (k := k) ha hk)
  have C1 := Lib.hid (shown_any w)
  have C2 := Lib.hid (fun w => put_any a w ha)
  have PL := Lib.hid (Pl.put_lt ha)
  generalize Pl.put a = p at *
  have L1 := Lib.hid l1; clear l1
  have a0 : (0 : Int) ≤ a := by omega
  have a1 : (a : Int) ≤ 18446744073709551615 := by omega
  clear ha
  go_enter Try.func5, Try.ntmps5
  go_wp2_with fail
  refine C1.out.mono ?_
  rintro e w1 ⟨rfl, hb1⟩
  go_wp2_with fail
  refine (C2.out _).mono ?_
  rintro e w2 ⟨A, cA, rfl, hown2, hb2⟩
  have S := Lib.hid (slc_of_own hown2 PL.out)
  have HB := Lib.hid (hb1.trans (hb2.mono hb1.size))
  clear hown2 hb1 hb2
  go_wp2
  go_loop [5, 6] (fun v i => WantRel p.length v i) (fun _ i => (10 - intOf i).toNat)
  case atStart => exact ⟨1, by omega, by omega, rfl, by rw [Nat.min_eq_right (by omega)]; rfl⟩
  case round =>
    obtain ⟨k, hk1, hk2, rfl, rfl⟩ := hrel
    have hm : ((min p.length k : Nat) : Int) = if k < p.length then (k : Int) else p.length := by split <;> omega
    rw [hm]
    by_cases hk : k < 10
    · have hs := LI.out k hk1
      have hc : ((a / 2 ^ (7 * k) : Nat) : Int) = (a : Int) / 2 ^ (7 * k) := by rw [Int.natCast_ediv, Int.natCast_pow]; rfl
      by_cases hkl : k < p.length
      · have hp : (0 : Int) < (a : Int) / 2 ^ (7 * k) := by have := hs.2 hkl; omega
        clear hs hc hm
        rw [if_pos hkl]
        go_wp2
        go_roundw
        case rel => exact ⟨k + 1, by omega, by omega, by go_num, by go_num⟩
        case measure => simp [intOf]; omega
      · have hp : ¬ (0 : Int) < (a : Int) / 2 ^ (7 * k) := fun h => hkl (hs.1 (by omega))
        clear hs hc hm
        rw [if_neg hkl]
        go_wp2
        go_round
        case rel => exact ⟨k + 1, by omega, by omega, by go_num, by rw [Nat.min_eq_left (by omega)]⟩
        case measure => simp [intOf]; omega
    · have hk10 : k = 10 := by omega
      subst hk10
      have hl : (if 10 < p.length then (10 : Int) else p.length) = p.length := by rw [if_neg (by omega)]
      clear hm
      go_wp2
      go_loop [7] (fun i => EachRel p.length i) (fun i => p.length - (intOf i).toNat)
      case atStart => exact ⟨0, by omega, rfl⟩
      case round =>
        obtain ⟨k, hk, rfl⟩ := hrel
        by_cases hkl : k < p.length
        · have hv : Pl.vlen (p.take k) = 0 := Pl.vlen_none _ (fun j h1 h2 => by rw [Pl.nth_take, if_pos (by simp at h2; omega)]; exact L1.out j (by simp at h2; omega))
          have ht : Pl.take (p.take k) = (0, 0, 2) := by unfold Pl.take; rw [if_pos hv, if_pos (by simp; omega)]
          have c3 := take_any A k cA (p.take k) w2 (S.out.take_ (by omega))
          rw [ht] at c3
          have C3 := Lib.hid c3; clear c3 hv ht
          obtain ⟨_, hcA, hmA, hlt, hcell⟩ := S.out
          obtain ⟨b, off, rfl, _, hcell⟩ := hcell (by omega)
          have hck := hcell k hkl
          unfold bv at hck
          have h255 := hlt k
          clear hcell hlt
          by_cases hlast : k < p.length - 1
          · have hb := L1.out k hlast
            have d1 : decide ((128 : Int) ≤ (Pl.nth p k : Int)) = true := by simp; omega
            have d2 : decide ((k : Int) < (p.length : Int) - 1) = true := by simp; omega
            clear hb hlast
            go_wp2_with fail
            refine C3.out.mono ?_
            rintro e w' ⟨rfl, rfl⟩
            go_wp2
            go_round
            case rel => exact ⟨k + 1, by omega, by go_num⟩
            case measure => simp [intOf]; omega
          · have ek : k = p.length - 1 := by omega
            have d1 : decide ((128 : Int) ≤ (Pl.nth p k : Int)) = false := by rw [← ek] at l2; simp; omega
            have d2 : decide ((k : Int) < (p.length : Int) - 1) = false := by simp; omega
            clear ek hlast
            go_wp2_with fail
            refine C3.out.mono ?_
            rintro e w' ⟨rfl, rfl⟩
            go_wp2
            go_round
            case rel => exact ⟨k + 1, by omega, by go_num⟩
            case measure => simp [intOf]; omega
        · go_wp2
          go_ret
          exact ⟨rfl, HB.out⟩
end Go.Proofs.Ytjmafkdbopdljaa
