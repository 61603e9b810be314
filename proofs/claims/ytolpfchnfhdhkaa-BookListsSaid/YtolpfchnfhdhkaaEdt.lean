/-
  Labels, values, edits, plain; the walks of package text and of its reference.
-/
import Derived.Test.YtolpfchnfhdhkaaTxt
namespace Go.Proofs.Ytolpfchnfhdhkaa
open Go.RowKit
set_option maxRecDepth 100000

structure Ed where
  k : Int
  key : ByteArray
  l : Int
  v : ByteArray
namespace Ed
def val (e : Ed) : Value := .agg #[.int .i64 e.k, .string e.key, .int .i64 e.l, .string e.v]
def cells (e : Ed) : Array Value := #[.int .i64 e.k, .string e.key, .int .i64 e.l, .string e.v]
end Ed
namespace Tx
def label (n : Int) : Int := if n = 0 ∨ n = 1 then 0 else 11
def value (s : ByteArray) : Int := if 1 ≤ s.size ∧ s.size ≤ 12 then 0 else 12
def bareOf (e : Ed) : Int := if e.l ≠ 0 then 11 else if e.v.size ≠ 0 then 12 else 0
def fullOf (e : Ed) : Int := if label e.l ≠ 0 then label e.l else value e.v
def edit (e : Ed) : Int :=
  if e.k < 1 ∨ 5 < e.k then 1
  else if key e.key ≠ 0 then key e.key
  else if e.k = 1 ∨ e.k = 2 then bareOf e
  else fullOf e
theorem key_or (s : ByteArray) : key s = 0 ∨ key s = 10 := by unfold key; split <;> simp
theorem label_or (n : Int) : label n = 0 ∨ label n = 11 := by unfold label; split <;> simp
theorem value_or (s : ByteArray) : value s = 0 ∨ value s = 12 := by unfold value; split <;> simp
/-- Held against the empty text. -/
theorem empty_iff (s : ByteArray) : s.toList.isEmpty = decide (s.size = 0) := by
  have h : s.size = s.data.toList.length := by rw [Array.length_toList]; rfl
  rw [ByteArray.toList_eq, h]
  cases s.data.toList <;> simp
end Tx

theorem label_any (n : Int) (w : World) : Calls Try.prog 125 #[.int .i64 n] w fun e w' => e = .returned (.int .i64 (Tx.label n)) ∧ w' = w := by
  have H := Lib.hid (show Tx.label n = if n = 0 ∨ n = 1 then 0 else 11 from rfl)
  by_cases h0 : n < 0
  · rw [if_neg (by omega)] at H
    go_enter Try.func125, Try.ntmps125
    go_wp2
    go_ret
    exact ⟨by rw [H.out]; rfl, rfl⟩
  by_cases h2 : 2 ≤ n
  · rw [if_neg (by omega)] at H
    go_enter Try.func125, Try.ntmps125
    go_wp2
    go_ret
    exact ⟨by rw [H.out]; rfl, rfl⟩
  · rw [if_pos (by omega)] at H
    go_enter Try.func125, Try.ntmps125
    go_wp2
    go_ret
    exact ⟨by rw [H.out]; rfl, rfl⟩
theorem value_any (s : ByteArray) (w : World) : Calls Try.prog 126 #[.string s] w fun e w' => e = .returned (.int .i64 (Tx.value s)) ∧ w' = w := by
  have H := Lib.hid (show Tx.value s = if 1 ≤ s.size ∧ s.size ≤ 12 then 0 else 12 from rfl)
  by_cases h : 1 ≤ s.size ∧ s.size ≤ 12
  · rw [if_pos h] at H
    go_enter Try.func126, Try.ntmps126
    go_wp2
    go_ret
    exact ⟨by rw [H.out]; rfl, rfl⟩
  · rw [if_neg h] at H
    go_enter Try.func126, Try.ntmps126
    by_cases h0 : s.size < 1
    · go_wp2
      go_ret
      exact ⟨by rw [H.out]; rfl, rfl⟩
    · go_wp2
      go_ret
      exact ⟨by rw [H.out]; rfl, rfl⟩
theorem without_any (x : Ed) (w : World) : Calls Try.prog 109 #[x.val] w fun e w' => e = .returned (.int .i64 (Tx.bareOf x)) ∧ Below w.heap.size w w' := by
  have H := Lib.hid (show Tx.bareOf x = if x.l ≠ 0 then 11 else if x.v.size ≠ 0 then 12 else 0 from rfl)
  unfold Ed.val
  have he := Tx.empty_iff x.v
  go_enter Try.func109, Try.ntmps109
  by_cases h : x.l = 0
  · have d0 : (x.l == 0) = true := by simpa using h
    rw [if_neg (by simpa using h)] at H
    by_cases hv : x.v.size = 0
    · rw [if_neg (by simpa using hv)] at H
      rw [decide_eq_true hv] at he
      go_wp2
      go_ret
      exact ⟨by rw [H.out]; rfl, (Below.refl _ _).alloc (Nat.le_refl _) _⟩
    · rw [if_pos (by simpa using hv)] at H
      rw [decide_eq_false hv] at he
      go_wp2
      go_ret
      exact ⟨by rw [H.out]; rfl, (Below.refl _ _).alloc (Nat.le_refl _) _⟩
  · have d0 : (x.l == 0) = false := by simpa using h
    rw [if_pos (by simpa using h)] at H
    go_wp2
    go_ret
    exact ⟨by rw [H.out]; rfl, (Below.refl _ _).alloc (Nat.le_refl _) _⟩
theorem with_any (x : Ed) (w : World) : Calls Try.prog 110 #[x.val] w fun e w' => e = .returned (.int .i64 (Tx.fullOf x)) ∧ Below w.heap.size w w' := by
  have H := Lib.hid (show Tx.fullOf x = if Tx.label x.l ≠ 0 then Tx.label x.l else Tx.value x.v from rfl)
  have C1 := Lib.hid (fun w => label_any x.l w)
  have C2 := Lib.hid (fun w => value_any x.v w)
  have O := Tx.label_or x.l
  unfold Ed.val
  generalize Tx.label x.l = r at *
  generalize Tx.value x.v = q at *
  go_enter Try.func110, Try.ntmps110
  go_wp2_with fail
  refine (C1.out _).mono ?_
  rintro e w1 ⟨rfl, rfl⟩
  rcases O with rfl | rfl
  · rw [if_neg (by simp)] at H
    go_wp2_with fail
    refine (C2.out _).mono ?_
    rintro e w1 ⟨rfl, rfl⟩
    go_wp2
    go_ret
    exact ⟨by rw [H.out]; rfl, (Below.refl _ _).alloc (Nat.le_refl _) _⟩
  · rw [if_pos (by simp)] at H
    go_wp2
    go_ret
    exact ⟨by rw [H.out]; rfl, (Below.refl _ _).alloc (Nat.le_refl _) _⟩
end Go.Proofs.Ytolpfchnfhdhkaa
