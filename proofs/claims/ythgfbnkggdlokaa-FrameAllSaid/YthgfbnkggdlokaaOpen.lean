/-
  The walks of crc.Open, and of the reference's Seal and Open.
-/
import Derived.Test.YthgfbnkggdlokaaSeal
import Derived.Test.YthgfbnkggdlokaaFacts
namespace Go.Proofs.Ythgfbnkggdlokaa
open Go.RowKit
set_option maxRecDepth 100000
attribute [local go_sem ↓] Go.wp_at_zero Go.wp_at_succ

/-- What is opened: all new, if it is open; else none. -/
def OpenPost (w : World) (xs : List Nat) (e : Ending) (w' : World) : Prop :=
  Below w.heap.size w w' ∧ (Cr.opens xs = true ∧ (∃ v, e = .returned (.tuple #[v, .bool true]) ∧ w'.ownsRow w.heap.size 5 1 v (xs.length - 4) ((xs.take (xs.length - 4)).map bv)) ∨
    Cr.opens xs = false ∧ e = .returned (.tuple #[.slice none 0 0, .bool false]))

set_option maxHeartbeats 800000 in
theorem open_any (A : Option Addr) (n cap : Nat) (xs : List Nat) (w : World) (h : Slc w A n cap xs) (hn : n ≤ 1000000) :
    Calls Try.prog 45 #[.slice A n cap] w (OpenPost w xs) := by
  have H := Lib.hid h
  have hl := h.1
  have hc := h.2.1
  have hm := h.2.2.1
  clear h
  by_cases h4 : 4 ≤ n
  · have n0 : ¬ (n : Int) - 4 < 0 := by omega
    have n1 : IntKind.i64.wrap ((n : Int) - 4) = (n : Int) - 4 := IntWalk.i64_in _ ⟨by omega, by omega⟩
    have n2 : ((n : Int) - 4).toNat = n - 4 := by omega
    have n3 : (n : Int) - 4 ≤ cap := by omega
    have n4 : (4 : Int) ≤ n := by omega
    have n5 : decide ((n : Int) - 4 < 0) = false := by simp; omega
    have HT := Lib.hid (H.out.take_ (u := n - 4) (by omega))
    have C1 := Lib.hid (fun w (h : Slc w A (n - 4) cap (xs.take (n - 4))) => tail_any A (n - 4) cap _ w h)
    have e0 : (Value.agg ((Cr.tail (Cr.sum (xs.take (n - 4)))).map bv).toArray) = .agg #[bv (Cr.sum (xs.take (n - 4)) % 256), bv (Cr.sum (xs.take (n - 4)) / 256 % 256), bv (Cr.sum (xs.take (n - 4)) / 65536 % 256), bv (Cr.sum (xs.take (n - 4)) / 16777216 % 256)] := rfl
    have ho : Cr.opens xs = decide (xs.drop (n - 4) = [Cr.sum (xs.take (n - 4)) % 256, Cr.sum (xs.take (n - 4)) / 256 % 256, Cr.sum (xs.take (n - 4)) / 65536 % 256, Cr.sum (xs.take (n - 4)) / 16777216 % 256]) := by
      unfold Cr.opens
      rw [hl, decide_eq_true h4]
      rfl
    rw [e0] at C1
    generalize Cr.sum (xs.take (n - 4)) % 256 = t0 at *
    generalize Cr.sum (xs.take (n - 4)) / 256 % 256 = t1 at *
    generalize Cr.sum (xs.take (n - 4)) / 65536 % 256 = t2 at *
    generalize Cr.sum (xs.take (n - 4)) / 16777216 % 256 = t3 at *
    have C2 := Lib.hid (fun w (h : Slc w A n cap xs) => endsWith_any A n cap xs w h h4 t0 t1 t2 t3)
    rw [← ho] at C2
    have ht : xs.take (xs.length - 4) = xs.take (n - 4) := by rw [hl]
    have hk : xs.length - 4 = n - 4 := by rw [hl]
    have P : ∀ e w', (Below w.heap.size w w' ∧ (Cr.opens xs = true ∧ (∃ v, e = .returned (.tuple #[v, .bool true]) ∧ w'.ownsRow w.heap.size 5 1 v (n - 4) ((xs.take (n - 4)).map bv)) ∨
        Cr.opens xs = false ∧ e = .returned (.tuple #[.slice none 0 0, .bool false]))) → OpenPost w xs e w' := fun e w' h => by
      unfold OpenPost
      rw [hk]
      exact h
    refine Calls.mono ?_ P
    clear P
    have HL := Lib.hid hl
    clear e0 ho ht hk hl
    generalize xs.take (n - 4) = ys at *
    obtain ⟨r, hr⟩ : ∃ r, Cr.opens xs = r := ⟨_, rfl⟩
    rw [hr] at C2
    rw [hr]
    clear hr
    go_enter Try.func45, Try.ntmps45
    go_wp2_with fail
    refine (C1.out _ HT.out).mono ?_
    rintro e w1 ⟨rfl, hb1⟩
    go_wp2_with fail
    refine (C2.out _ (H.out.below hb1)).mono ?_
    rintro e w2 ⟨rfl, hb2⟩
    have HB := Lib.hid (hb1.trans (hb2.mono hb1.size))
    have hz2 := HB.out.size
    clear hb1 hb2
    cases r
    · go_wp2
      go_ret2
      exact ⟨HB.out, rfl⟩
    · have O0 := Lib.hid (World.ownsRow_made (base := w.heap.size) (e := 5) (size := 1) w2 #[] 0 hz2 (Nat.zero_le _) rfl)
      have S2 := Lib.hid ((HT.out.below HB.out).below ((Below.refl w2.heap.size w2).alloc (Nat.le_refl _) (.cells #[] 5)))
      go_wp2_with (at_builtin; refine wpList_append_slc rfl _ _ rfl w.heap.size (.slice (some ⟨w2.heap.size, 0, none⟩) 0 0) 0 [] rfl O0.out A (n - 4) cap ys rfl S2.out (by omega) (by simp; omega) ?_)
      intro v3 w3 hown3 hg3
      have HB3 := Lib.hid ((HB.out.alloc hz2 (.cells #[] 5)).grown hg3 (by simp; omega) (fun k hk => by simp [Value.ownBlock] at hk; omega))
      have O3 := Lib.hid (show w3.ownsRow w.heap.size 5 1 v3 (n - 4) (ys.map bv) by simpa using hown3)
      clear hown3 hg3
      go_wp2
      go_ret2
      exact ⟨HB3.out, _, rfl, O3.out⟩
  · have ho : Cr.opens xs = false := by unfold Cr.opens; rw [hl, decide_eq_false h4]; rfl
    have n1 : IntKind.i64.wrap ((n : Int) - 4) = (n : Int) - 4 := IntWalk.i64_in _ ⟨by omega, by omega⟩
    have n5 : decide ((n : Int) - 4 < 0) = true := by simp; omega
    have n6 : (n : Int) < 4 := by omega
    go_enter Try.func45, Try.ntmps45
    go_wp2
    go_ret2
    exact ⟨Below.refl _ _, .inr ⟨ho, rfl⟩⟩

def RSealRel (base : Nat) (xs : List Nat) (s0 : Nat) (w : World) (v3 v4 v5 : Value) (wr : World) : Prop :=
  ∃ (k : Nat) (s : Nat), k ≤ 4 ∧ v5 = .int .i64 k ∧ v3 = .int .u32 s ∧ s < 4294967296 ∧ s = s0 / 256 ^ k ∧ wr.ownsRow base 5 1 v4 (xs.length + k) ((xs ++ (Cr.tail s0).take k).map bv) ∧ Below w.heap.size w wr ∧ base ≤ wr.heap.size

theorem tail_step (s : Nat) (k : Nat) (h : k < 4) : (Cr.tail s).take (k + 1) = (Cr.tail s).take k ++ [s / 256 ^ k % 256] := by
  match k, h with
  | 0, _ => simp [Cr.tail]
  | 1, _ => simp [Cr.tail]
  | 2, _ => simp [Cr.tail]
  | 3, _ => simp [Cr.tail]

set_option maxHeartbeats 800000 in
theorem rseal_any (A : Option Addr) (n cap : Nat) (xs : List Nat) (w : World) (h : Slc w A n cap xs) (hn : n ≤ 1000000) :
    Calls Try.prog 44 #[.slice A n cap] w (RetBytes w (Cr.sealed xs)) := by
  obtain ⟨i0, hi, hz0, hz1, hz2⟩ := info_parts info5
  have C1 := Lib.hid (rsum_any A n cap xs w h)
  have H := Lib.hid h
  have hl := h.1
  have hc := h.2.1
  have hm := h.2.2.1
  have hs := Cr.sum_lt xs
  have hse : Cr.sealed xs = xs ++ (Cr.tail (Cr.sum xs)).take 4 := rfl
  rw [hse]
  generalize Cr.sum xs = s0 at *
  clear h hse
  have HL := Lib.hid hl
  clear hl
  go_enter Try.func44, Try.ntmps44
  go_wp2_with fail
  refine C1.out.mono ?_
  rintro e w' ⟨rfl, rfl⟩
  have O0 := Lib.hid (World.ownsRow_made (base := w.heap.size) (e := 5) (size := 1) w #[] 0 (Nat.le_refl _) (Nat.zero_le _) rfl)
  have S2 := Lib.hid (H.out.below ((Below.refl w.heap.size w).alloc (Nat.le_refl _) (.cells #[] 5)))
  go_wp2_with (at_builtin; refine wpList_append_slc rfl _ _ rfl w.heap.size (.slice (some ⟨w.heap.size, 0, none⟩) 0 0) 0 [] rfl O0.out A n cap xs rfl S2.out (by omega) (by simp) ?_)
  intro v3 w3 hown3 hg3
  have hB3 := ((Below.refl w.heap.size w).alloc (Nat.le_refl _) (.cells #[] 5)).grown hg3 (by simp) (fun k hk => by simp [Value.ownBlock] at hk; omega)
  have hz3 := hB3.size
  have HB3 := Lib.hid hB3
  have O3 := Lib.hid (show w3.ownsRow w.heap.size 5 1 v3 (xs.length + 0) ((xs ++ (Cr.tail s0).take 0).map bv) by simpa [HL.out] using hown3)
  clear hown3 hg3 hB3
  go_wp2
  go_loopw [3, 4, 5] (fun v3 v4 v5 wr => RSealRel w.heap.size xs s0 w v3 v4 v5 wr) (fun _ _ v5 _ => 4 - (intOf v5).toNat)
  case atStart => exact ⟨0, s0, by omega, rfl, rfl, hs, by simp, O3.out, HB3.out, hz3⟩
  case round =>
    obtain ⟨k, s, hk, rfl, rfl, hs1, hse, hown, hB, hzr⟩ := hrel
    have HS := Lib.hid hse
    clear hse
    have s1 : (0 : Int) ≤ s := by omega
    have s2 : (s : Int) ≤ 4294967295 := by omega
    have HB := Lib.hid hB
    clear hB
    have lx : xs.length = n := HL.out
    by_cases hk4 : k < 4
    · have hx : (xs.length + k) + 1 ≤ 140737488355328 := by omega
      clear lx
      go_wp2_with (at_builtin; refine wpList_append_own _ rfl _ _ 27 rfl w.heap.size 5 i0 (.int .u8 0) 1 1 Try.underlying27 hi hz0 hz1 hz2 rfl (by decide) _ _ _ rfl (hown.alloc _) ⟨wr.heap.size, 0, none⟩ 1 1 [.int .u8 (s % 256)] rfl rfl ?c1 ?c2 ?c3 ?c4 ?c5 ?_)
      case c1 => exact new_cells wr [.int .u8 (s % 256)] _
      case c2 => exact one_cell _
      case c3 => unfold maxLen; omega
      case c4 => omega
      case c5 => simp; omega
      intro v' w1 hown' hgrow _
      have hB' := Lib.hid ((HB.out.alloc (by omega) _).grown hgrow (by simp; omega) (fun k hk => (hown.lt k hk).1))
      have hzz := hgrow.size
      have hO' := Lib.hid hown'
      clear hown' hgrow
      go_wp2
      go_roundw
      case rel =>
        refine ⟨k + 1, s / 256, by omega, by go_num, by go_num, by omega, ?_, ?_, hB'.out, by simp at hzz; omega⟩
        · rw [HS.out, Nat.pow_succ, Nat.div_div_eq_div_mul]
        · have e := tail_step s0 k hk4
          rw [e, ← HS.out]
          simpa [bv, Nat.add_assoc] using hO'.out
      case measure => simp [intOf]; omega
    · obtain rfl : k = 4 := by omega
      clear lx
      go_wp2
      go_ret
      exact ret_own hown (Nat.le_refl _) HB.out
end Go.Proofs.Ythgfbnkggdlokaa
