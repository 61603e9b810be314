/-
  The walks of varint.Take and of what it calls.
-/
import Derived.Test.YthgfbnkggdlokaaPut
import Derived.Laws.BytesArg
import Derived.Deep.Draws
namespace Go.Proofs.Ythgfbnkggdlokaa
open Go.RowKit
set_option maxRecDepth 100000

def LenRel (xs : List Nat) (m : Nat) (i : Value) : Prop := ∃ k : Nat, k ≤ m ∧ i = .int .i64 k ∧ ∀ j, j < k → ¬ Pl.nth xs j < 128

set_option maxRecDepth 100000 in
set_option maxHeartbeats 400000 in
theorem length_any (A : Option Addr) (n cap : Nat) (xs : List Nat) (w : World) (h : Slc w A n cap xs) :
    Calls Try.prog 104 #[.slice A n cap] w fun e w' => e = .returned (.int .i64 (Pl.vlen xs)) ∧ w = w' := by
  obtain ⟨hl, hc, hm, hlt, hcell⟩ := h
  have HL := Lib.hid hl; clear hl
  have HT := Lib.hid hlt; clear hlt
  have HC := Lib.hid hcell; clear hcell
  by_cases h10 : n ≤ 10
  · have h10' : (n : Int) ≤ 10 := by omega
    go_enter Try.func104, Try.ntmps104
    go_wp2
    go_loop [11] (fun i => LenRel xs n i) (fun i => n - (intOf i).toNat)
    case atStart => exact ⟨0, by omega, rfl, fun j hj => absurd hj (by omega)⟩
    case round =>
      obtain ⟨k, hk, rfl, hb⟩ := hrel
      by_cases hlt : k < n
      · obtain ⟨b, off, rfl, _, hcell⟩ := HC.out (by omega)
        have hck := hcell k (by omega)
        unfold bv at hck
        clear hcell
        have HB := Lib.hid hb; clear hb
        by_cases hs : Pl.nth xs k < 128
        · go_wp2
          go_ret
          exact ⟨by rw [Pl.vlen_some xs k (by omega) (by rw [HL.out]; omega) HB.out hs]; go_num, rfl⟩
        · go_wp2
          go_round
          case rel => exact ⟨k + 1, by omega, by go_num, fun j hj => by rcases Nat.lt_succ_iff_lt_or_eq.1 hj with h | rfl; exact HB.out j h; exact hs⟩
          case measure => simp [intOf]; omega
      · have hkk : k = n := by omega
        have e := Pl.vlen_none xs (fun j h1 h2 => hb j (by rw [HL.out] at h2; omega))
        have HB := Lib.hid hb; clear hb
        have HE := Lib.hid e; clear e
        have HK := Lib.hid hkk; clear hkk
        go_wp2
        go_ret
        exact ⟨by rw [HE.out]; rfl, rfl⟩
  · have hmx : max (10 : Int) 0 = 10 := by decide
    have h10' : ¬ (n : Int) ≤ 10 := by omega
    go_enter Try.func104, Try.ntmps104
    go_wp2
    go_loop [11] (fun i => LenRel xs 10 i) (fun i => 10 - (intOf i).toNat)
    case atStart => exact ⟨0, by omega, rfl, fun j hj => absurd hj (by omega)⟩
    case round =>
      obtain ⟨k, hk, rfl, hb⟩ := hrel
      by_cases hlt : k < 10
      · obtain ⟨b, off, rfl, _, hcell⟩ := HC.out (by omega)
        have hck := hcell k (by omega)
        unfold bv at hck
        clear hcell
        have HB := Lib.hid hb; clear hb
        by_cases hs : Pl.nth xs k < 128
        · go_wp2
          go_ret
          exact ⟨by rw [Pl.vlen_some xs k (by omega) (by rw [HL.out]; omega) HB.out hs]; go_num, rfl⟩
        · go_wp2
          go_round
          case rel => exact ⟨k + 1, by omega, by go_num, fun j hj => by rcases Nat.lt_succ_iff_lt_or_eq.1 hj with h | rfl; exact HB.out j h; exact hs⟩
          case measure => simp [intOf]; omega
      · have hkk : k = 10 := by omega
        have e := Pl.vlen_none xs (fun j h1 h2 => hb j (by rw [HL.out] at h2; omega))
        have HB := Lib.hid hb; clear hb
        have HE := Lib.hid e; clear e
        have HK := Lib.hid hkk; clear hkk
        go_wp2
        go_ret
        exact ⟨by rw [HE.out]; rfl, rfl⟩

theorem endless_any (A : Option Addr) (n cap : Nat) (w : World) :
    Calls Try.prog 105 #[.slice A n cap] w fun e w' => e = .returned (.int .i64 (if n < 10 then 2 else 3)) ∧ w = w' := by
  by_cases h10 : n < 10
  · rw [if_pos h10]
    go_enter Try.func105, Try.ntmps105
    go_wp2
    go_ret
    exact ⟨rfl, rfl⟩
  · rw [if_neg h10]
    go_enter Try.func105, Try.ntmps105
    go_wp2
    go_ret
    exact ⟨rfl, rfl⟩

set_option maxRecDepth 100000 in
set_option maxHeartbeats 400000 in
theorem wasPut_any (A : Option Addr) (n cap : Nat) (xs : List Nat) (w : World) (h : Slc w A n cap xs) (h0 : 0 < n) :
    Calls Try.prog 106 #[.slice A n cap] w fun e w' => e = .returned (.bool (Pl.lastOk xs)) ∧ w = w' := by
  obtain ⟨hl, hc, hm, hlt, hcell⟩ := h
  obtain ⟨b, off, rfl, _, hc1⟩ := hcell h0
  have hck := hc1 (n - 1) (by omega)
  unfold bv at hck
  have h255 := hlt (n - 1)
  subst hl
  clear hc1 hlt hcell
  by_cases hz : Pl.nth xs (xs.length - 1) = 0
  · have e : Pl.lastOk xs = decide (xs.length = 1) := by unfold Pl.lastOk; rw [if_pos hz]
    rw [e]
    have hck0 : w.cell? ⟨b, off + (xs.length - 1), none⟩ = some (.int .u8 0) := by rw [hck, hz]; rfl
    clear hck h255 hz e
    by_cases h1 : xs.length = 1
    · have h1i : ((xs.length : Int) == 1) = true := by simp; omega
      have H := Lib.hid h1; clear h1
      go_enter Try.func106, Try.ntmps106
      go_wp2
      go_ret
      exact ⟨by simp [H.out], rfl⟩
    · have h1i : ((xs.length : Int) == 1) = false := by simp; omega
      go_enter Try.func106, Try.ntmps106
      go_wp2
      go_ret
      exact ⟨by simp [h1], rfl⟩
  · have e : Pl.lastOk xs = (decide (xs.length < 10) || decide (Pl.nth xs (xs.length - 1) = 1)) := by unfold Pl.lastOk; rw [if_neg hz]
    rw [e]
    clear e
    have hzi : ((Pl.nth xs (xs.length - 1) : Int) == 0) = false := by simp; omega
    by_cases h10 : xs.length < 10
    · go_enter Try.func106, Try.ntmps106
      go_wp2
      go_ret
      exact ⟨by simp, rfl⟩
    · by_cases h1 : Pl.nth xs (xs.length - 1) = 1
      · have h1i : ((Pl.nth xs (xs.length - 1) : Int) == 1) = true := by simp; omega
        have H := Lib.hid h1; clear h1
        go_enter Try.func106, Try.ntmps106
        go_wp2
        go_ret
        exact ⟨by simp [H.out], rfl⟩
      · have h1i : ((Pl.nth xs (xs.length - 1) : Int) == 1) = false := by simp; omega
        go_enter Try.func106, Try.ntmps106
        go_wp2
        go_ret
        exact ⟨by simp [h1]; omega, rfl⟩

def ValRel (xs : List Nat) (v i : Value) : Prop := ∃ k : Nat, k ≤ xs.length ∧ i = .int .i64 k ∧ v = .int .u64 (Pl.valTo xs k)

set_option maxRecDepth 100000 in
set_option maxHeartbeats 400000 in
theorem vvalue_any (A : Option Addr) (n cap : Nat) (xs : List Nat) (w : World) (h : Slc w A n cap xs) (h9 : n ≤ 10) :
    Calls Try.prog 107 #[.slice A n cap] w fun e w' => e = .returned (.int .u64 (Pl.valTo xs n)) ∧ w = w' := by
  obtain ⟨hl, hc, hm, hlt, hcell⟩ := h
  have HT := Lib.hid hlt; clear hlt
  have HC := Lib.hid hcell; clear hcell
  subst hl
  go_enter Try.func107, Try.ntmps107
  go_wp2
  go_loop [3, 8] (fun v i => ValRel xs v i) (fun _ i => xs.length - (intOf i).toNat)
  case atStart => exact ⟨0, by omega, rfl, rfl⟩
  case round =>
    obtain ⟨k, hk, rfl, rfl⟩ := hrel
    by_cases hlt : k < xs.length
    · obtain ⟨b, off, rfl, _, hcell⟩ := HC.out (by omega)
      have hck := hcell k (by omega)
      have h255 := HT.out k
      unfold bv at hck
      clear hcell
      go_wp2
      have hv : bits BinOp.or IntKind.u64 (↑(Pl.valTo xs k)) (IntKind.u64.wrap (↑(Pl.nth xs k) % 128 * 2 ^ (7 * k))) = ((Pl.valTo xs (k + 1) : Nat) : Int) := by
        have e : IntKind.u64.wrap ((Pl.nth xs k : Int) % 128 * 2 ^ (7 * k)) = (((Pl.nth xs k % 128) <<< (7 * k) % 18446744073709551616 : Nat) : Int) := by
          rw [IntKind.wrap_u64, Nat.shiftLeft_eq, Int.natCast_emod, Int.natCast_mul, Int.natCast_emod, Int.natCast_pow]; rfl
        rw [e, u64_or_nat _ _ (Pl.valTo_lt xs k) (Nat.mod_lt _ (by decide)), Pl.valTo]
      go_round
      case rel => exact ⟨k + 1, by omega, by go_num, by rw [hv]⟩
      case measure => simp [intOf]; omega
    · go_wp2
      go_ret
      have : k = xs.length := by omega
      subst this
      exact ⟨rfl, rfl⟩

set_option maxRecDepth 100000 in
set_option maxHeartbeats 400000 in
theorem take_any (A : Option Addr) (n cap : Nat) (xs : List Nat) (w : World) (h : Slc w A n cap xs) :
    Calls Try.prog 84 #[.slice A n cap] w fun e w' => e = .returned (.tuple #[.int .u64 (Pl.take xs).1, .int .i64 (Pl.take xs).2.1, .int .i64 (Pl.take xs).2.2]) ∧ w = w' := by
  have hv := Pl.vlen_le xs
  have hl := h.1
  have hcap := h.2.1
  have hm := h.2.2.1
  by_cases h0 : Pl.vlen xs = 0
  · have e : Pl.take xs = (0, 0, if n < 10 then 2 else 3) := by unfold Pl.take; rw [if_pos h0, hl]
    have E := Lib.hid e; clear e
    have c1 := length_any A n cap xs w h
    rw [h0] at c1
    have C1 := Lib.hid c1; clear c1
    have c2 := endless_any A n cap w
    clear hl h0
    by_cases h10 : n < 10
    · rw [if_pos h10] at c2 E
      have C2 := Lib.hid c2; clear c2
      go_enter Try.func84, Try.ntmps84
      go_wp2_with fail
      refine C1.out.mono ?_
      rintro e w' ⟨rfl, rfl⟩
      go_wp2_with fail
      refine C2.out.mono ?_
      rintro e w' ⟨rfl, rfl⟩
      go_wp2
      go_ret3
      exact ⟨by rw [E.out]; rfl, rfl⟩
    · rw [if_neg h10] at c2 E
      have C2 := Lib.hid c2; clear c2
      go_enter Try.func84, Try.ntmps84
      go_wp2_with fail
      refine C1.out.mono ?_
      rintro e w' ⟨rfl, rfl⟩
      go_wp2_with fail
      refine C2.out.mono ?_
      rintro e w' ⟨rfl, rfl⟩
      go_wp2
      go_ret3
      exact ⟨by rw [E.out]; rfl, rfl⟩
  · have h0i : ((Pl.vlen xs : Int) == 0) = false := by simp; omega
    have hu : Pl.vlen xs ≤ n := by omega
    have hs := h.take_ hu
    have C1 := Lib.hid (length_any A n cap xs w h)
    have C2 := Lib.hid (wasPut_any A _ cap _ w hs (by omega))
    have C3 := Lib.hid (vvalue_any A _ cap _ w hs hv.2)
    have e : Pl.take xs = if Pl.lastOk (xs.take (Pl.vlen xs)) then (Pl.valTo (xs.take (Pl.vlen xs)) (Pl.vlen xs), Pl.vlen xs, 0) else (0, 0, 3) := by unfold Pl.take; rw [if_neg h0]
    clear hs hl h
    generalize Pl.lastOk (xs.take (Pl.vlen xs)) = ok at *
    generalize Pl.valTo (xs.take (Pl.vlen xs)) (Pl.vlen xs) = v at *
    generalize Pl.vlen xs = u at *
    have E := Lib.hid e; clear e
    cases ok
    · go_enter Try.func84, Try.ntmps84
      go_wp2_with fail
      refine C1.out.mono ?_
      rintro e w' ⟨rfl, rfl⟩
      go_wp2_with fail
      refine C2.out.mono ?_
      rintro e w' ⟨rfl, rfl⟩
      go_wp2
      go_ret3
      exact ⟨by rw [E.out]; rfl, rfl⟩
    · go_enter Try.func84, Try.ntmps84
      go_wp2_with fail
      refine C1.out.mono ?_
      rintro e w' ⟨rfl, rfl⟩
      go_wp2_with fail
      refine C2.out.mono ?_
      rintro e w' ⟨rfl, rfl⟩
      go_wp2_with fail
      refine C3.out.mono ?_
      rintro e w' ⟨rfl, rfl⟩
      go_wp2
      go_ret3
      exact ⟨by rw [E.out]; rfl, rfl⟩
end Go.Proofs.Ythgfbnkggdlokaa
