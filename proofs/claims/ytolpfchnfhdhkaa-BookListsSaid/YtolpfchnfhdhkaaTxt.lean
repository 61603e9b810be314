/-
  Which texts may be keys, plain; the walks of both Keys.
-/
import Derived.Test.YtolpfchnfhdhkaaBlk
import Derived.WalkSpells
import Derived.Lib.OthersKept
import Derived.Laws.RangeAny
namespace Go.Proofs.Ytolpfchnfhdhkaa
open Go.RowKit
set_option maxRecDepth 100000
namespace Tx
/-- Byte j, as a number. -/
def at_ (s : ByteArray) (j : Nat) : Nat := (s.get! j).toNat
def low (s : ByteArray) (j : Nat) : Bool := decide (97 ≤ at_ s j) && decide (at_ s j ≤ 122)
/-- The first k bytes are letters. -/
def allTo (s : ByteArray) (k : Nat) : Bool := (List.range k).all fun j => low s j
def kOk (s : ByteArray) : Bool := decide (1 ≤ s.size) && decide (s.size ≤ 8) && allTo s s.size
def key (s : ByteArray) : Int := if kOk s then 0 else 10
theorem allTo_succ (s : ByteArray) (k : Nat) : allTo s (k + 1) = (allTo s k && low s k) := by
  simp [allTo, List.range_succ]
theorem allTo_iff (s : ByteArray) (k : Nat) : allTo s k = true ↔ ∀ j, j < k → 97 ≤ at_ s j ∧ at_ s j ≤ 122 := by
  simp [allTo, low]
theorem get_at_ (s : ByteArray) (j : Nat) (h : j < s.size) : (s[j]'h).toNat = at_ s j := by
  have : s.get! j = s[j]'h := by
    simp [ByteArray.get!, getElem!_pos, h]
    rfl
  rw [at_, this]
theorem at_lt (s : ByteArray) (j : Nat) : at_ s j < 256 := (s.get! j).toNat_lt
theorem key_len {s : ByteArray} (h : s.size < 1 ∨ 8 < s.size) : key s = 10 := by
  rw [key, if_neg]
  simp only [kOk, Bool.and_eq_true, decide_eq_true_eq]
  omega
theorem key_bad {s : ByteArray} {j : Nat} (hj : j < s.size) (h : at_ s j < 97 ∨ 122 < at_ s j) : key s = 10 := by
  rw [key, if_neg]
  simp only [kOk, Bool.and_eq_true, decide_eq_true_eq, allTo_iff]
  intro hk
  have := hk.2 j hj
  omega
theorem key_good {s : ByteArray} (h1 : 1 ≤ s.size) (h2 : s.size ≤ 8) (h : allTo s s.size = true) : key s = 0 := by
  rw [key, if_pos]
  simp [kOk, h1, h2, h]
end Tx

set_option maxHeartbeats 400000 in
theorem key_any (s : ByteArray) (w : World) : Calls Try.prog 108 #[.string s] w fun e w' => e = .returned (.int .i64 (Tx.key s)) ∧ Below w.heap.size w w' := by
  go_enter Try.func108, Try.ntmps108
  by_cases h1 : s.size < 1
  · have K := Lib.hid (Tx.key_len (s := s) (.inl h1))
    go_wp2
    go_ret
    exact ⟨by rw [K.out]; rfl, Below.refl _ _⟩
  by_cases h8 : 8 < s.size
  · have K := Lib.hid (Tx.key_len (s := s) (.inr h8))
    go_wp2
    go_ret
    exact ⟨by rw [K.out]; rfl, Below.refl _ _⟩
  go_wp2
  go_loopw [] (fun w' => ∃ pos : Nat, w' = w.iter s pos ∧ pos ≤ s.size ∧ Hid (Tx.allTo s pos = true)) (fun w' => s.size - w'.iterPos w.heap.size)
  case atStart => exact ⟨0, rfl, by omega, rfl⟩
  case round =>
    obtain ⟨pos, rfl, hle, HA⟩ := hrel
    have HB := Lib.hid (show ∀ p, Below w.heap.size w (w.iter s p) from fun p => (Below.refl _ _).alloc (Nat.le_refl _) _)
    by_cases hp : pos < s.size
    · by_cases hlow : (s[pos]'hp).toNat < 128
      · have hnx : ∀ ty, (Instr.next (.pointer (some ⟨w.heap.size, 0, none⟩)) true ty).run Try.prog (w.iter s pos) = _ := fun ty => run_next_ascii w s pos ty hp hlow
        have KB := Lib.hid (fun h => Tx.key_bad hp h)
        have KS := Lib.hid (show Tx.allTo s (pos + 1) = (decide (97 ≤ Tx.at_ s pos) && decide (Tx.at_ s pos ≤ 122)) by rw [Tx.allTo_succ, HA.out, Bool.true_and]; rfl)
        rw [Tx.get_at_ s pos hp] at hnx hlow
        generalize Tx.at_ s pos = c at *
        by_cases hc : 97 ≤ c ∧ c ≤ 122
        · go_wp2
          go_roundw
          case rel => exact ⟨pos + 1, rfl, by omega, Lib.hid (by rw [KS.out]; simp [hc])⟩
          case measure => simp; omega
        · by_cases hc1 : c < 97
          · go_wp2
            go_ret
            exact ⟨by rw [KB.out (by omega)]; rfl, HB.out _⟩
          · go_wp2
            go_ret
            exact ⟨by rw [KB.out (by omega)]; rfl, HB.out _⟩
      · have hd := (decode_high s pos hp (by omega)).1
        have hnx : ∀ ty, (Instr.next (.pointer (some ⟨w.heap.size, 0, none⟩)) true ty).run Try.prog (w.iter s pos) = _ := fun ty => run_next_any w s pos ty hp
        rw [Tx.get_at_ s pos hp] at hlow
        have K := Lib.hid (Tx.key_bad hp (by omega))
        go_wp2
        go_ret
        exact ⟨by rw [K.out]; rfl, HB.out _⟩
    · have hnx : ∀ ty, (Instr.next (.pointer (some ⟨w.heap.size, 0, none⟩)) true ty).run Try.prog (w.iter s pos) = _ := fun ty => run_next_end w s pos ty hp
      obtain rfl : pos = s.size := by omega
      have K := Lib.hid (Tx.key_good (by omega) (by omega) HA.out)
      go_wp2
      go_ret
      exact ⟨by rw [K.out]; rfl, HB.out _⟩

end Go.Proofs.Ytolpfchnfhdhkaa
