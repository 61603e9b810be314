/-
  The walks of varint.Take and of what it calls.
-/
import Derived.Test.YtjmafkdbopdljaaPut
import Derived.Laws.BytesArg
import Derived.Deep.Draws
namespace Go.Proofs.Ytjmafkdbopdljaa
open Go.RowKit

/-- A slice value with these bytes in it: its address is asked for only where there is one. -/
def Slc (w : World) (A : Option Addr) (n cap : Nat) (xs : List Nat) : Prop :=
  xs.length = n ∧ n ≤ cap ∧ cap ≤ 9223372036854775807 ∧ (∀ j, Pl.nth xs j < 256) ∧ (0 < n → ∃ b off, A = some ⟨b, off, none⟩ ∧ b < w.heap.size ∧ ∀ j, j < n → w.cell? ⟨b, off + j, none⟩ = some (bv (Pl.nth xs j)))

/-- What the call made reads as its bytes. -/
theorem slc_of_own {w : World} {B : Nat} {A : Option Addr} {cap : Nat} {xs : List Nat} (h : w.ownsRow B 5 1 (.slice A xs.length cap) xs.length (xs.map bv)) (hx : ∀ x ∈ xs, x < 256) : Slc w A xs.length cap xs := by
  have h255 : ∀ j, Pl.nth xs j < 256 := fun j => by
    unfold Pl.nth
    rw [List.getD_eq_getElem?_getD]
    by_cases hj : j < xs.length
    · rw [List.getElem?_eq_getElem hj]; exact hx _ (List.getElem_mem hj)
    · rw [List.getElem?_eq_none (by omega)]; simp
  rcases h.2 with ⟨hv, h0⟩ | ⟨g, cap', cur, hv, hb, hg, hnc, hcm, hcs, htake⟩
  · injection hv with _ _ hc
    refine ⟨rfl, by omega, by omega, h255, fun h => by omega⟩
  · injection hv with ha _ hc
    subst ha hc
    refine ⟨rfl, hnc, by simp only [maxLen] at hcm; omega, h255, fun _ => ⟨g, 0, rfl, ?_, fun j hj => ?_⟩⟩
    · rcases Nat.lt_or_ge g w.heap.size with h | h
      · exact h
      · rw [Array.getElem?_eq_none h] at hg; cases hg
    · have := h.cells (g := g) rfl j (bv (Pl.nth xs j)) (by simp [Pl.nth, hj])
      have hadd : (⟨g, 0, none⟩ : Addr).add j = ⟨g, 0 + j, none⟩ := by unfold Addr.add; split <;> simp_all
      rwa [hadd] at this
theorem slc_of_own2 {w : World} {B n : Nat} {v : Value} {xs : List Nat} (h : w.ownsRow B 5 1 v n (xs.map bv)) (hx : ∀ x ∈ xs, x < 256) : ∃ A cap, v = .slice A n cap ∧ Slc w A n cap xs := by
  obtain ⟨A, cap, rfl⟩ := own_form h
  have hl : xs.length = n := by have := h.1; simpa using this
  subst hl
  exact ⟨A, cap, rfl, slc_of_own h hx⟩
theorem Slc.below {w w' : World} {A : Option Addr} {n cap : Nat} {xs : List Nat} (h : Slc w A n cap xs) (hb : Below w.heap.size w w') : Slc w' A n cap xs := by
  obtain ⟨hl, hc, hm, hlt, hcell⟩ := h
  refine ⟨hl, hc, hm, hlt, fun h0 => ?_⟩
  obtain ⟨b, off, e, hbl, hcl⟩ := hcell h0
  exact ⟨b, off, e, Nat.lt_of_lt_of_le hbl hb.size, fun j hj => (hb.cell (p := ⟨b, off + j, none⟩) hbl).trans (hcl j hj)⟩
theorem Slc.drewN {w : World} {A : Option Addr} {n cap : Nat} {xs : List Nat} (h : Slc w A n cap xs) (k : Nat) : Slc (w.drewN k) A n cap xs := h
theorem below_drewN {B : Nat} {a w : World} (h : Below B a w) (n : Nat) : Below B a (w.drewN n) := ⟨h.os, h.tape, h.output, h.size, h.block⟩
/-- The text of bytes. -/
def str (xs : List Nat) : ByteArray := strOfNums (xs.map fun (x : Nat) => (x : Int))
theorem str_inj : ∀ (l m : List Nat), (∀ x ∈ l, x < 256) → (∀ y ∈ m, y < 256) → List.map ((fun n : Int => UInt8.ofNat n.toNat) ∘ fun (x : Nat) => (x : Int)) l = List.map ((fun n : Int => UInt8.ofNat n.toNat) ∘ fun (x : Nat) => (x : Int)) m → l = m := by
  intro l
  induction l with
  | nil => intro m _ _ h; cases m <;> simp_all
  | cons a l ih =>
    intro m ha hb h
    cases m with
    | nil => simp at h
    | cons b m =>
      simp only [List.map_cons, List.cons.injEq, Function.comp] at h
      have h1 := congrArg UInt8.toNat h.1
      simp at h1
      have a1 := ha a (by simp)
      have b1 := hb b (by simp)
      rw [ih m (fun x hx => ha x (by simp [hx])) (fun x hx => hb x (by simp [hx])) h.2]
      congr 1
      omega
theorem str_eq {xs ys : List Nat} (hx : ∀ x ∈ xs, x < 256) (hy : ∀ y ∈ ys, y < 256) : ((str xs).toList == (str ys).toList) = decide (xs = ys) := by
  rw [Bool.eq_iff_iff]
  simp only [beq_iff_eq, decide_eq_true_eq, ByteArray.toList_eq]
  constructor
  · intro h
    simp only [str, strOfNums_data, List.map_map] at h
    exact str_inj xs ys hx hy h
  · rintro rfl; rfl
/-- 'string(b)'. -/
theorem conv_slc {w : World} {A : Option Addr} {n cap : Nat} {xs : List Nat} (h : Slc w A n cap xs) : (convert 23 9 (.slice A n cap)).run Try.prog w = .ok (.string (str xs)) w := by
  obtain ⟨hl, hc, hm, hlt, hcell⟩ := h
  subst hl
  by_cases h0 : 0 < xs.length
  · obtain ⟨b, off, rfl, _, hcl⟩ := hcell h0
    refine run_convert_bytes_arg (P := Try.prog) w _ _ Try.underlying23 Try.underlying5 b off xs.length cap (xs.map fun (x : Nat) => (x : Int)) (by simp) (fun i hi => ?_) _ Try.underlying9
    rw [hcl i hi]
    simp [bv, Pl.nth, hi]
  · have hx : xs = [] := List.eq_nil_of_length_eq_zero (by omega)
    subst hx
    rcases A with _ | ⟨b, off, sp⟩
    · exact run_convert_bytes_nil (P := Try.prog) w _ _ Try.underlying23 Try.underlying5 _ _ _ Try.underlying9
    · have hl : (loadCells ⟨b, off, sp⟩ 0).run Try.prog w = .ok (([] : List Int).map (Value.int .u8)).toArray w := by simp [loadCells, loadCellsFrom]
      rw [run_convert_bytes_string w _ _ _ _ _ cap Try.underlying23 Try.underlying5 Try.underlying9]
      exact run_bytesToString w _ 0 cap [] hl
theorem Slc.take_ {w : World} {A : Option Addr} {n cap : Nat} {xs : List Nat} (h : Slc w A n cap xs) {u : Nat} (hu : u ≤ n) : Slc w A u cap (xs.take u) := by
  obtain ⟨hl, hc, hm, hlt, hcell⟩ := h
  refine ⟨by rw [List.length_take]; omega, by omega, hm, fun j => ?_, fun h0 => ?_⟩
  · rw [Pl.nth_take]; have := hlt j; split <;> omega
  · obtain ⟨b, off, e, hb, hcl⟩ := hcell (by omega)
    exact ⟨b, off, e, hb, fun j hj => by rw [Pl.nth_take, if_pos hj]; exact hcl j (by omega)⟩

def LenRel (xs : List Nat) (m : Nat) (i : Value) : Prop := ∃ k : Nat, k ≤ m ∧ i = .int .i64 k ∧ ∀ j, j < k → ¬ Pl.nth xs j < 128

set_option maxRecDepth 100000 in
set_option maxHeartbeats 400000 in
theorem length_any (A : Option Addr) (n cap : Nat) (xs : List Nat) (w : World) (h : Slc w A n cap xs) :
    Calls Try.prog 15 #[.slice A n cap] w fun e w' => e = .returned (.int .i64 (Pl.vlen xs)) ∧ w = w' := by
  obtain ⟨hl, hc, hm, hlt, hcell⟩ := h
  have HL := Lib.hid hl; clear hl
  have HT := Lib.hid hlt; clear hlt
  have HC := Lib.hid hcell; clear hcell
  by_cases h10 : n ≤ 10
  · have h10' : (n : Int) ≤ 10 := by omega
    go_enter Try.func15, Try.ntmps15
    go_wp2
    go_loop [11] (fun i => LenRel xs n i) (fun i => n - (intOf i).toNat)
    case atStart => exact ⟨0, by omega, rfl, fun j hj => absurd hj (by omega)⟩
    case round =>
      obtain ⟨k, hk, rfl, hb⟩ := hrel
      by_cases hlt : k < n
      · obtain ⟨b, off, rfl, _, hcell⟩ := HC.out (by omega)
        have hck := hcell k (by omega)
        unfold bv at hck
        clear hcell
        have HB := Lib.hid hb; clear hb
        by_cases hs : Pl.nth xs k < 128
        · go_wp2
          go_ret
          exact ⟨by rw [Pl.vlen_some xs k (by omega) (by rw [HL.out]; omega) HB.out hs]; go_num, rfl⟩
        · go_wp2
          go_round
          case rel => exact ⟨k + 1, by omega, by go_num, fun j hj => by rcases Nat.lt_succ_iff_lt_or_eq.1 hj with h | rfl; exact HB.out j h; exact hs⟩
          case measure => simp [intOf]; omega
      · have hkk : k = n := by omega
        have e := Pl.vlen_none xs (fun j h1 h2 => hb j (by rw [HL.out] at h2; omega))
        have HB := Lib.hid hb; clear hb
        have HE := Lib.hid e; clear e
        have HK := Lib.hid hkk; clear hkk
        go_wp2
        go_ret
        exact ⟨by rw [HE.out]; rfl, rfl⟩
  · have hmx : max (10 : Int) 0 = 10 := by decide
    have h10' : ¬ (n : Int) ≤ 10 := by omega
    go_enter Try.func15, Try.ntmps15
    go_wp2
    go_loop [11] (fun i => LenRel xs 10 i) (fun i => 10 - (intOf i).toNat)
    case atStart => exact ⟨0, by omega, rfl, fun j hj => absurd hj (by omega)⟩
    case round =>
      obtain ⟨k, hk, rfl, hb⟩ := hrel
      by_cases hlt : k < 10
      · obtain ⟨b, off, rfl, _, hcell⟩ := HC.out (by omega)
        have hck := hcell k (by omega)
        unfold bv at hck
        clear hcell
        have HB := Lib.hid hb; clear hb
        by_cases hs : Pl.nth xs k < 128
        · go_wp2
          go_ret
          exact ⟨by rw [Pl.vlen_some xs k (by omega) (by rw [HL.out]; omega) HB.out hs]; go_num, rfl⟩
        · go_wp2
          go_round
          case rel => exact ⟨k + 1, by omega, by go_num, fun j hj => by rcases Nat.lt_succ_iff_lt_or_eq.1 hj with h | rfl; exact HB.out j h; exact hs⟩
          case measure => simp [intOf]; omega
      · have hkk : k = 10 := by omega
        have e := Pl.vlen_none xs (fun j h1 h2 => hb j (by rw [HL.out] at h2; omega))
        have HB := Lib.hid hb; clear hb
        have HE := Lib.hid e; clear e
        have HK := Lib.hid hkk; clear hkk
        go_wp2
        go_ret
        exact ⟨by rw [HE.out]; rfl, rfl⟩

theorem endless_any (A : Option Addr) (n cap : Nat) (w : World) :
    Calls Try.prog 16 #[.slice A n cap] w fun e w' => e = .returned (.int .i64 (if n < 10 then 2 else 3)) ∧ w = w' := by
  by_cases h10 : n < 10
  · rw [if_pos h10]
    go_enter Try.func16, Try.ntmps16
    go_wp2
    go_ret
    exact ⟨rfl, rfl⟩
  · rw [if_neg h10]
    go_enter Try.func16, Try.ntmps16
    go_wp2
    go_ret
    exact ⟨rfl, rfl⟩

set_option maxRecDepth 100000 in
set_option maxHeartbeats 400000 in
theorem wasPut_any (A : Option Addr) (n cap : Nat) (xs : List Nat) (w : World) (h : Slc w A n cap xs) (h0 : 0 < n) :
    Calls Try.prog 17 #[.slice A n cap] w fun e w' => e = .returned (.bool (Pl.lastOk xs)) ∧ w = w' := by
  obtain ⟨hl, hc, hm, hlt, hcell⟩ := h
  obtain ⟨b, off, rfl, _, hc1⟩ := hcell h0
  have hck := hc1 (n - 1) (by omega)
  unfold bv at hck
  have h255 := hlt (n - 1)
  subst hl
  clear hc1 hlt hcell
  by_cases hz : Pl.nth xs (xs.length - 1) = 0
  · have e : Pl.lastOk xs = decide (xs.length = 1) := by unfold Pl.lastOk; rw [if_pos hz]
    rw [e]
    have hck0 : w.cell? ⟨b, off + (xs.length - 1), none⟩ = some (.int .u8 0) := by rw [hck, hz]; rfl
    clear hck h255 hz e
    by_cases h1 : xs.length = 1
    · have h1i : ((xs.length : Int) == 1) = true := by simp; omega
      have H := Lib.hid h1; clear h1
      go_enter Try.func17, Try.ntmps17
      go_wp2
      go_ret
      exact ⟨by simp [H.out], rfl⟩
    · have h1i : ((xs.length : Int) == 1) = false := by simp; omega
      go_enter Try.func17, Try.ntmps17
      go_wp2
      go_ret
      exact ⟨by simp [h1], rfl⟩
  · have e : Pl.lastOk xs = (decide (xs.length < 10) || decide (Pl.nth xs (xs.length - 1) = 1)) := by unfold Pl.lastOk; rw [if_neg hz]
    rw [e]
    clear e
    have hzi : ((Pl.nth xs (xs.length - 1) : Int) == 0) = false := by simp; omega
    by_cases h10 : xs.length < 10
    · go_enter Try.func17, Try.ntmps17
      go_wp2
      go_ret
      exact ⟨by simp, rfl⟩
    · by_cases h1 : Pl.nth xs (xs.length - 1) = 1
      · have h1i : ((Pl.nth xs (xs.length - 1) : Int) == 1) = true := by simp; omega
        have H := Lib.hid h1; clear h1
        go_enter Try.func17, Try.ntmps17
        go_wp2
        go_ret
        exact ⟨by simp [H.out], rfl⟩
      · have h1i : ((Pl.nth xs (xs.length - 1) : Int) == 1) = false := by simp; omega
        go_enter Try.func17, Try.ntmps17
        go_wp2
        go_ret
        exact ⟨by simp [h1]; omega, rfl⟩

def ValRel (xs : List Nat) (v i : Value) : Prop := ∃ k : Nat, k ≤ xs.length ∧ i = .int .i64 k ∧ v = .int .u64 (Pl.valTo xs k)

set_option maxRecDepth 100000 in
set_option maxHeartbeats 400000 in
theorem value_any (A : Option Addr) (n cap : Nat) (xs : List Nat) (w : World) (h : Slc w A n cap xs) (h9 : n ≤ 10) :
    Calls Try.prog 18 #[.slice A n cap] w fun e w' => e = .returned (.int .u64 (Pl.valTo xs n)) ∧ w = w' := by
  obtain ⟨hl, hc, hm, hlt, hcell⟩ := h
  have HT := Lib.hid hlt; clear hlt
  have HC := Lib.hid hcell; clear hcell
  subst hl
  go_enter Try.func18, Try.ntmps18
  go_wp2
  go_loop [3, 8] (fun v i => ValRel xs v i) (fun _ i => xs.length - (intOf i).toNat)
  case atStart => exact ⟨0, by omega, rfl, rfl⟩
  case round =>
    obtain ⟨k, hk, rfl, rfl⟩ := hrel
    by_cases hlt : k < xs.length
    · obtain ⟨b, off, rfl, _, hcell⟩ := HC.out (by omega)
      have hck := hcell k (by omega)
      have h255 := HT.out k
      unfold bv at hck
      clear hcell
      go_wp2
      have hv : bits BinOp.or IntKind.u64 (↑(Pl.valTo xs k)) (IntKind.u64.wrap (↑(Pl.nth xs k) % 128 * 2 ^ (7 * k))) = ((Pl.valTo xs (k + 1) : Nat) : Int) := by
        have e : IntKind.u64.wrap ((Pl.nth xs k : Int) % 128 * 2 ^ (7 * k)) = (((Pl.nth xs k % 128) <<< (7 * k) % 18446744073709551616 : Nat) : Int) := by
          rw [IntKind.wrap_u64, Nat.shiftLeft_eq, Int.natCast_emod, Int.natCast_mul, Int.natCast_emod, Int.natCast_pow]; rfl
        rw [e, u64_or_nat _ _ (Pl.valTo_lt xs k) (Nat.mod_lt _ (by decide)), Pl.valTo]
      go_round
      case rel => exact ⟨k + 1, by omega, by go_num, by rw [hv]⟩
      case measure => simp [intOf]; omega
    · go_wp2
      go_ret
      have : k = xs.length := by omega
      subst this
      exact ⟨rfl, rfl⟩

set_option maxRecDepth 100000 in
set_option maxHeartbeats 400000 in
theorem take_any (A : Option Addr) (n cap : Nat) (xs : List Nat) (w : World) (h : Slc w A n cap xs) :
    Calls Try.prog 10 #[.slice A n cap] w fun e w' => e = .returned (.tuple #[.int .u64 (Pl.take xs).1, .int .i64 (Pl.take xs).2.1, .int .i64 (Pl.take xs).2.2]) ∧ w = w' := by
  have hv := Pl.vlen_le xs
  have hl := h.1
  have hcap := h.2.1
  have hm := h.2.2.1
  by_cases h0 : Pl.vlen xs = 0
  · have e : Pl.take xs = (0, 0, if n < 10 then 2 else 3) := by unfold Pl.take; rw [if_pos h0, hl]
    have E := Lib.hid e; clear e
    have c1 := length_any A n cap xs w h
    rw [h0] at c1
    have C1 := Lib.hid c1; clear c1
    have c2 := endless_any A n cap w
    clear hl h0
    by_cases h10 : n < 10
    · rw [if_pos h10] at c2 E
      have C2 := Lib.hid c2; clear c2
      go_enter Try.func10, Try.ntmps10
      go_wp2_with fail
      refine C1.out.mono ?_
      rintro e w' ⟨rfl, rfl⟩
      go_wp2_with fail
      refine C2.out.mono ?_
      rintro e w' ⟨rfl, rfl⟩
      go_wp2
      go_ret3
      exact ⟨by rw [E.out]; rfl, rfl⟩
    · rw [if_neg h10] at c2 E
      have C2 := Lib.hid c2; clear c2
      go_enter Try.func10, Try.ntmps10
      go_wp2_with fail
      refine C1.out.mono ?_
      rintro e w' ⟨rfl, rfl⟩
      go_wp2_with fail
      refine C2.out.mono ?_
      rintro e w' ⟨rfl, rfl⟩
      go_wp2
      go_ret3
      exact ⟨by rw [E.out]; rfl, rfl⟩
  · have h0i : ((Pl.vlen xs : Int) == 0) = false := by simp; omega
    have hu : Pl.vlen xs ≤ n := by omega
    have hs := h.take_ hu
    have C1 := Lib.hid (length_any A n cap xs w h)
    have C2 := Lib.hid (wasPut_any A _ cap _ w hs (by omega))
    have C3 := Lib.hid (value_any A _ cap _ w hs hv.2)
    have e : Pl.take xs = if Pl.lastOk (xs.take (Pl.vlen xs)) then (Pl.valTo (xs.take (Pl.vlen xs)) (Pl.vlen xs), Pl.vlen xs, 0) else (0, 0, 3) := by unfold Pl.take; rw [if_neg h0]
    clear hs hl h
    generalize Pl.lastOk (xs.take (Pl.vlen xs)) = ok at *
    generalize Pl.valTo (xs.take (Pl.vlen xs)) (Pl.vlen xs) = v at *
    generalize Pl.vlen xs = u at *
    have E := Lib.hid e; clear e
    cases ok
    · go_enter Try.func10, Try.ntmps10
      go_wp2_with fail
      refine C1.out.mono ?_
      rintro e w' ⟨rfl, rfl⟩
      go_wp2_with fail
      refine C2.out.mono ?_
      rintro e w' ⟨rfl, rfl⟩
      go_wp2
      go_ret3
      exact ⟨by rw [E.out]; rfl, rfl⟩
    · go_enter Try.func10, Try.ntmps10
      go_wp2_with fail
      refine C1.out.mono ?_
      rintro e w' ⟨rfl, rfl⟩
      go_wp2_with fail
      refine C2.out.mono ?_
      rintro e w' ⟨rfl, rfl⟩
      go_wp2_with fail
      refine C3.out.mono ?_
      rintro e w' ⟨rfl, rfl⟩
      go_wp2
      go_ret3
      exact ⟨by rw [E.out]; rfl, rfl⟩
end Go.Proofs.Ytjmafkdbopdljaa
