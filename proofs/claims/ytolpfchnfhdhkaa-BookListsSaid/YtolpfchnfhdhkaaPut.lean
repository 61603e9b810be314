/-
  The walk of varint.Put.
-/
import Derived.Test.YtolpfchnfhdhkaaChecked
import Derived.Test.YtolpfchnfhdhkaaPlain
import Derived.WalkKit
import Derived.OwnWalk
import Derived.ProofKit
import Derived.Below
import Derived.Outline
import Derived.Handy
import Derived.Lib.Hide
namespace Go.Proofs.Ytolpfchnfhdhkaa
open Go.RowKit
set_option maxRecDepth 100000

/-- What holds at the head of each round: the bytes so far, and those of what is left, are all. -/
def PutRel (n0 : Nat) (w : World) (v0 v3 : Value) (wr : World) : Prop :=
  ∃ (m : Nat) (xs : List Nat), m ≤ n0 ∧ v0 = .int .u64 m ∧ xs ++ Pl.put m = Pl.put n0 ∧ wr.ownsRow w.heap.size 5 1 v3 xs.length (xs.map bv) ∧ Below w.heap.size w wr

set_option maxRecDepth 100000 in
set_option maxHeartbeats 400000 in
theorem put_any (n : Nat) (w : World) (hn : n < 18446744073709551616) :
    Calls Try.prog 124 #[.int .u64 n] w (RetBytes w (Pl.put n)) := by
  obtain ⟨i0, hi, hz0, hz1, hz2⟩ := info_parts info5
  go_enter Try.func124, Try.ntmps124
  go_wp2
  go_loopw [0, 3] (fun v0 v3 wr => PutRel n w v0 v3 wr) (fun v0 _ _ => (intOf v0).toNat)
  case atStart => exact ⟨n, [], Nat.le_refl _, rfl, rfl, World.ownsRow_nil _ _ _ _, Below.refl _ _⟩
  case round =>
    obtain ⟨m, xs, hm, rfl, hx, hown, hb⟩ := hrel
    have hm0 : (0 : Int) ≤ m := by omega
    have hm1 : (m : Int) ≤ 18446744073709551615 := by omega
    have hl : xs.length ≤ 11 := by have := Pl.put_len n; rw [← hx, List.length_append] at this; omega
    have HX := Lib.hid hx; clear hx
    have HN := Lib.hid hn; clear hn
    by_cases hlt : m < 128
    · go_wp2_with (at_builtin; refine wpList_append_own _ rfl _ _ 33 rfl w.heap.size 5 i0 (.int .u8 0) 1 1 Try.underlying33 hi hz0 hz1 hz2 rfl (by decide) _ _ _ rfl (hown.alloc _) ⟨wr.heap.size, 0, none⟩ 1 1 [.int .u8 m] rfl rfl ?c1 ?c2 ?c3 ?c4 ?c5 ?_)
      case c1 => exact new_cells wr [.int .u8 m] _
      case c2 => exact one_cell _
      case c3 => unfold maxLen; omega
      case c4 => omega
      case c5 => have := hb.size; simp; omega
      intro v' w1 hown' hgrow _
      go_wp2
      go_ret
      have hf : Pl.put n = xs ++ [m] := by rw [← HX.out, Pl.put_lo hlt]
      obtain ⟨A, cap, hv⟩ := own_form hown'
      have hl1 : (xs ++ [m]).length = xs.length + 1 := by simp
      exact ⟨A, cap, by rw [hv, hf, hl1]; rfl, by rw [hf, hl1, ← hv]; simpa [bv] using hown', (hb.alloc (by have := hb.size; omega) _).grown hgrow (by have := hb.size; simp; omega) (fun k hk => (hown.lt k hk).1)⟩
    · go_wp2_with (at_builtin; refine wpList_append_own _ rfl _ _ 33 rfl w.heap.size 5 i0 (.int .u8 0) 1 1 Try.underlying33 hi hz0 hz1 hz2 rfl (by decide) _ _ _ rfl (hown.alloc _) ⟨wr.heap.size, 0, none⟩ 1 1 [.int .u8 (m % 128 + 128)] rfl rfl ?c1 ?c2 ?c3 ?c4 ?c5 ?_)
      case c1 => exact new_cells wr [.int .u8 (m % 128 + 128)] _
      case c2 => exact one_cell _
      case c3 => unfold maxLen; omega
      case c4 => omega
      case c5 => have := hb.size; simp; omega
      intro v' w1 hown' hgrow _
      go_wp2
      go_roundw
      case rel =>
        have hh := Pl.put_hi hlt (by have := HN.out; omega)
        exact ⟨m / 128, xs ++ [m % 128 + 128], by omega, by go_num, by rw [← HX.out, hh]; simp, by simpa [bv] using hown', (hb.alloc (by have := hb.size; omega) _).grown hgrow (by have := hb.size; simp; omega) (fun k hk => (hown.lt k hk).1)⟩
      case measure => simp [intOf]; omega
end Go.Proofs.Ytolpfchnfhdhkaa
