/-
  The walks of crc.Sum and of the reference's, and of 'few'.
-/
import Derived.Test.YthgfbnkggdlokaaStep
namespace Go.Proofs.Ythgfbnkggdlokaa
open Go.RowKit
set_option maxRecDepth 100000

theorem reg_take_succ (r : Nat) (xs : List Nat) (k : Nat) (h : k < xs.length) : Cr.reg r (xs.take (k + 1)) = Cr.step (Cr.reg r (xs.take k)) (Pl.nth xs k) := by
  rw [List.take_succ_eq_append_getElem h, Cr.reg_append, Cr.reg_cons, Cr.reg_nil]
  simp [Pl.nth, h]
theorem reg_take_lt (xs : List Nat) (k : Nat) (h : ∀ x ∈ xs, x < 256) : Cr.reg 4294967295 (xs.take k) < 4294967296 :=
  Cr.reg_lt _ (by omega) fun x hx => h x (List.mem_of_mem_take hx)
theorem not_word {q : Nat} (h : q < 4294967296) : bits BinOp.xor IntKind.u32 IntKind.u32.max (q : Int) = ((4294967295 - q : Nat) : Int) := by
  rw [Cr.not_xor h, Nat.xor_comm]
  exact u32_xor_nat 4294967295 q (by omega) h
/-- Of the bytes so far, the register. -/
def SumRel (xs : List Nat) (v3 v8 : Value) : Prop := ∃ k : Nat, k ≤ xs.length ∧ v8 = .int .i64 k ∧ v3 = .int .u32 (Cr.reg 4294967295 (xs.take k))

set_option maxHeartbeats 400000 in
theorem sum_any (A : Option Addr) (n cap : Nat) (xs : List Nat) (w : World) (h : Slc w A n cap xs) :
    Calls Try.prog 86 #[.slice A n cap] w fun e w' => e = .returned (.int .u32 (Cr.sum xs)) ∧ w = w' := by
  obtain ⟨hl, hc, hm, hlt, hcell⟩ := h
  have HT := Lib.hid hlt
  have L := Lib.hid (fun k => reg_take_lt xs k (Pl.lt_of_nth hlt))
  clear hlt
  have HC := Lib.hid hcell; clear hcell
  have C1 := Lib.hid (fun r c w (h : r < 4294967296) (hc : c < 256) => step_any r c w h hc)
  subst hl
  go_enter Try.func86, Try.ntmps86
  go_wp2
  go_loop [3, 8] (fun v3 v8 => SumRel xs v3 v8) (fun _ v8 => xs.length - (intOf v8).toNat)
  case atStart => exact ⟨0, by omega, rfl, by rw [List.take_zero, Cr.reg_nil]; rfl⟩
  case round =>
    obtain ⟨k, hk, rfl, rfl⟩ := hrel
    have hr := L.out k
    by_cases hlt : k < xs.length
    · obtain ⟨b, off, rfl, _, hcell⟩ := HC.out (by omega)
      have hck := hcell k (by omega)
      have h255 := HT.out k
      unfold bv at hck
      clear hcell
      have hs := reg_take_succ 4294967295 xs k hlt
      have S := Lib.hid hs; clear hs
      go_wp2_with fail
      refine (C1.out _ _ _ hr h255).mono ?_
      rintro e w' ⟨rfl, rfl⟩
      go_wp2
      go_round
      case rel => exact ⟨k + 1, by omega, by go_num, by rw [S.out]⟩
      case measure => simp [intOf]; omega
    · obtain rfl : k = xs.length := by omega
      rw [List.take_length] at hr ⊢
      have hs : Cr.sum xs = 4294967295 - Cr.reg 4294967295 xs := rfl
      generalize Cr.reg 4294967295 xs = q at *
      have S := Lib.hid hs; clear hs
      have q0 : (0 : Int) ≤ q := by omega
      have q1 : (q : Int) ≤ 4294967295 := by omega
      have X := Lib.hid (not_word hr)
      go_wp2
      go_ret
      exact ⟨by rw [S.out, ← X.out]; rfl, rfl⟩

set_option maxHeartbeats 400000 in
theorem rsum_any (A : Option Addr) (n cap : Nat) (xs : List Nat) (w : World) (h : Slc w A n cap xs) :
    Calls Try.prog 82 #[.slice A n cap] w fun e w' => e = .returned (.int .u32 (Cr.sum xs)) ∧ w = w' := by
  obtain ⟨hl, hc, hm, hlt, hcell⟩ := h
  have HT := Lib.hid hlt
  have L := Lib.hid (fun k => reg_take_lt xs k (Pl.lt_of_nth hlt))
  clear hlt
  have HC := Lib.hid hcell; clear hcell
  have C1 := Lib.hid (fun r c w (h : r < 4294967296) (hc : c < 256) => rstep_any r c w h hc)
  subst hl
  go_enter Try.func82, Try.ntmps82
  go_wp2
  go_loop [3, 4] (fun v3 v8 => SumRel xs v3 v8) (fun _ v8 => xs.length - (intOf v8).toNat)
  case atStart => exact ⟨0, by omega, rfl, by rw [List.take_zero, Cr.reg_nil]; rfl⟩
  case round =>
    obtain ⟨k, hk, rfl, rfl⟩ := hrel
    have hr := L.out k
    by_cases hlt : k < xs.length
    · obtain ⟨b, off, rfl, _, hcell⟩ := HC.out (by omega)
      have hck := hcell k (by omega)
      have h255 := HT.out k
      unfold bv at hck
      clear hcell
      have hs := reg_take_succ 4294967295 xs k hlt
      have S := Lib.hid hs; clear hs
      go_wp2_with fail
      refine (C1.out _ _ _ hr h255).mono ?_
      rintro e w' ⟨rfl, rfl⟩
      go_wp2
      go_round
      case rel => exact ⟨k + 1, by omega, by go_num, by rw [S.out]⟩
      case measure => simp [intOf]; omega
    · obtain rfl : k = xs.length := by omega
      rw [List.take_length] at hr ⊢
      have hs : Cr.sum xs = 4294967295 - Cr.reg 4294967295 xs := rfl
      generalize Cr.reg 4294967295 xs = q at *
      have S := Lib.hid hs; clear hs
      have q0 : (0 : Int) ≤ q := by omega
      have q1 : (q : Int) ≤ 4294967295 := by omega
      go_wp2
      go_ret
      exact ⟨by rw [S.out]; congr 2; simp; omega, rfl⟩

set_option maxHeartbeats 400000 in
theorem tail_any (A : Option Addr) (n cap : Nat) (xs : List Nat) (w : World) (h : Slc w A n cap xs) :
    Calls Try.prog 51 #[.slice A n cap] w fun e w' => e = .returned (.agg ((Cr.tail (Cr.sum xs)).map bv).toArray) ∧ Below w.heap.size w w' := by
  have C1 := Lib.hid (fun w (h : Slc w A n cap xs) => sum_any A n cap xs w h)
  have H := Lib.hid h; clear h
  have hs := Cr.sum_lt xs
  generalize Cr.sum xs = s at *
  have s0 : (0 : Int) ≤ s := by omega
  have s1 : (s : Int) ≤ 4294967295 := by omega
  clear hs
  go_enter Try.func51, Try.ntmps51
  go_wp2_with fail
  refine (C1.out _ (H.out.below (((Below.refl _ _).alloc (Nat.le_refl _) _).alloc (by simp) _))).mono ?_
  rintro e w' ⟨rfl, rfl⟩
  go_wp2
  go_rounds 5
  have e : (Value.agg #[.int .u8 ((s : Int) % 256), .int .u8 ((s : Int) / 256 % 256), .int .u8 ((s : Int) / 65536 % 256), .int .u8 ((s : Int) / 16777216)]) = .agg ((Cr.tail s).map bv).toArray := by
    have h4 : (s : Int) / 16777216 = ((s / 16777216 % 256 : Nat) : Int) := by omega
    rw [h4]
    rfl
  refine bodyPost_ret (v := .agg #[.int .u8 ((s : Int) % 256), .int .u8 ((s : Int) / 256 % 256), .int .u8 ((s : Int) / 65536 % 256), .int .u8 ((s : Int) / 16777216)]) (by simp [results, Try.results51, go_sem]) rfl ⟨by rw [e], ?_⟩
  exact ((Below.refl _ _).alloc (Nat.le_refl _) _).alloc (by simp) _
end Go.Proofs.Ythgfbnkggdlokaa
