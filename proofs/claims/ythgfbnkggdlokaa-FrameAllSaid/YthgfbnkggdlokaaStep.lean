/-
  The walks of crc.Step and of the reference's.
-/
import Derived.Test.YthgfbnkggdlokaaBase
import Derived.Test.YthgfbnkggdlokaaCrc
import Derived.Laws.BitsAllLaws
namespace Go.Proofs.Ythgfbnkggdlokaa
open Go.RowKit
set_option maxRecDepth 100000

theorem sh_word (r : Nat) (hr : r < 4294967296) : bits BinOp.xor IntKind.u32 ((r : Int) / 2) (bits BinOp.and IntKind.u32 3988292384 (-bits BinOp.and IntKind.u32 (r : Int) 1 % 4294967296)) = (Cr.sh r : Int) := by
  have e1 : bits BinOp.and IntKind.u32 (r : Int) 1 = ((r % 2 : Nat) : Int) := by
    have := u32_and_nat r 1 hr (by omega)
    rw [Nat.and_one_is_mod] at this
    exact this
  have ex : ∀ a b : Nat, a < 4294967296 → b < 4294967296 → bits BinOp.xor IntKind.u32 (a : Int) (b : Int) = ((a ^^^ b : Nat) : Int) := u32_xor_nat
  rw [e1]
  unfold Cr.sh
  rcases Nat.mod_two_eq_zero_or_one r with h | h
  · rw [h, if_neg (by omega)]
    have e2 : bits BinOp.and IntKind.u32 3988292384 (-((0 : Nat) : Int) % 4294967296) = ((0 : Nat) : Int) := by
      have := u32_and_nat 3988292384 0 (by omega) (by omega)
      rw [Nat.and_zero] at this
      exact this
    rw [e2, show (r : Int) / 2 = ((r / 2 : Nat) : Int) by omega, ex _ _ (by omega) (by omega), Nat.xor_zero]
  · rw [h, if_pos rfl]
    have e2 : bits BinOp.and IntKind.u32 3988292384 (-((1 : Nat) : Int) % 4294967296) = ((3988292384 : Nat) : Int) := by
      have e3 : (-((1 : Nat) : Int) % 4294967296) = ((4294967295 : Nat) : Int) := by decide
      rw [e3]
      have := u32_and_nat 3988292384 4294967295 (by omega) (by omega)
      exact this
    rw [e2, show (r : Int) / 2 = ((r / 2 : Nat) : Int) by omega, ex _ _ (by omega) (by omega)]

set_option maxHeartbeats 400000 in
theorem shifted_any (r : Nat) (w : World) (hr : r < 4294967296) :
    Calls Try.prog 127 #[.int .u32 r] w fun e w' => e = .returned (.int .u32 (Cr.sh r)) ∧ w = w' := by
  have r0 : (0 : Int) ≤ r := by omega
  have r1 : (r : Int) ≤ 4294967295 := by omega
  have H := Lib.hid (sh_word r hr)
  clear hr
  go_enter Try.func127, Try.ntmps127
  go_wp2
  go_ret
  exact ⟨by rw [← H.out]; rfl, rfl⟩

def StepRel (x : Nat) (v0 v9 : Value) : Prop := ∃ k : Nat, k ≤ 8 ∧ v9 = .int .i64 k ∧ v0 = .int .u32 (Cr.shN k x)

set_option maxHeartbeats 400000 in
theorem step_any (r c : Nat) (w : World) (hr : r < 4294967296) (hc : c < 256) :
    Calls Try.prog 112 #[.int .u32 r, .int .u8 c] w fun e w' => e = .returned (.int .u32 (Cr.step r c)) ∧ w = w' := by
  have r0 : (0 : Int) ≤ r := by omega
  have r1 : (r : Int) ≤ 4294967295 := by omega
  have c0 : (0 : Int) ≤ c := by omega
  have c1 : (c : Int) ≤ 255 := by omega
  have hx := Lib.hid (u32_xor_nat r c hr (by omega))
  have X := Lib.hid (fun k => Cr.shN_lt k (Cr.xor_lt hr (show c < 4294967296 by omega)))
  have C1 := Lib.hid (fun r w (h : r < 4294967296) => shifted_any r w h)
  clear hr hc
  go_enter Try.func112, Try.ntmps112
  go_wp2
  go_loop [0, 9] (fun v0 v9 => StepRel (r ^^^ c) v0 v9) (fun _ v9 => 8 - (intOf v9).toNat)
  case atStart => exact ⟨0, by omega, rfl, by rw [hx.out]; rfl⟩
  case round =>
    obtain ⟨k, hk, rfl, rfl⟩ := hrel
    have hsu := Cr.shN_add k 1 (r ^^^ c)
    have hlt := X.out k
    have H := Lib.hid hsu; clear hsu
    by_cases h8 : k < 8
    · go_wp2_with fail
      refine (C1.out _ _ hlt).mono ?_
      rintro e w' ⟨rfl, rfl⟩
      go_wp2
      go_round
      case rel => exact ⟨k + 1, by omega, by go_num, by rw [H.out]; rfl⟩
      case measure => simp [intOf]; omega
    · obtain rfl : k = 8 := by omega
      go_wp2
      go_ret
      exact ⟨rfl, rfl⟩

def RStepRel (x : Nat) (v0 v5 : Value) : Prop := ∃ k : Nat, k ≤ 8 ∧ v5 = .int .i64 k ∧ v0 = .int .u32 (Cr.shN k x)

set_option maxHeartbeats 400000 in
theorem rstep_any (r c : Nat) (w : World) (hr : r < 4294967296) (hc : c < 256) :
    Calls Try.prog 103 #[.int .u32 r, .int .u8 c] w fun e w' => e = .returned (.int .u32 (Cr.step r c)) ∧ w = w' := by
  have r0 : (0 : Int) ≤ r := by omega
  have r1 : (r : Int) ≤ 4294967295 := by omega
  have c0 : (0 : Int) ≤ c := by omega
  have c1 : (c : Int) ≤ 255 := by omega
  have hx := Lib.hid (u32_xor_nat r c hr (by omega))
  have X := Lib.hid (fun k => Cr.shN_lt k (Cr.xor_lt hr (show c < 4294967296 by omega)))
  clear hr hc
  go_enter Try.func103, Try.ntmps103
  go_wp2
  go_loop [0, 5] (fun v0 v5 => StepRel (r ^^^ c) v0 v5) (fun _ v5 => 8 - (intOf v5).toNat)
  case atStart => exact ⟨0, by omega, rfl, by rw [hx.out]; rfl⟩
  case round =>
    obtain ⟨k, hk, rfl, rfl⟩ := hrel
    have hsu := Cr.shN_add k 1 (r ^^^ c)
    have hlt := X.out k
    generalize hq : Cr.shN k (r ^^^ c) = q at *
    have H := Lib.hid hsu; clear hsu
    have Q := Lib.hid hq; clear hq
    have q0 : (0 : Int) ≤ q := by omega
    have q1 : (q : Int) ≤ 4294967295 := by omega
    by_cases h8 : k < 8
    · rcases Nat.mod_two_eq_zero_or_one q with hm | hm
      · have hm1 : ((q : Int) % 2 == 1) = false := by simp; omega
        have hs : Cr.shN 1 q = q / 2 := by simp [Cr.shN, Cr.sh, hm]
        have S := Lib.hid hs
        clear hm hlt hs
        go_wp2
        go_round
        case rel => exact ⟨k + 1, by omega, by go_num, by rw [H.out, S.out]; rfl⟩
        case measure => simp [intOf]; omega
      · have hm1 : ((q : Int) % 2 == 1) = true := by simp; omega
        have hs : Cr.shN 1 q = (q / 2) ^^^ 3988292384 := by simp [Cr.shN, Cr.sh, hm]
        have hx2 : bits BinOp.xor IntKind.u32 ((q : Int) / 2) 3988292384 = (((q / 2) ^^^ 3988292384 : Nat) : Int) := u32_xor_nat (q / 2) 3988292384 (by omega) (by omega)
        have S := Lib.hid hs
        have X2 := Lib.hid hx2
        clear hm hlt hs hx2
        go_wp2
        go_round
        case rel => exact ⟨k + 1, by omega, by go_num, by rw [H.out, S.out, ← X2.out]⟩
        case measure => simp [intOf]; omega
    · obtain rfl : k = 8 := by omega
      go_wp2
      go_ret
      exact ⟨by rw [← Q.out]; rfl, rfl⟩
end Go.Proofs.Ythgfbnkggdlokaa
