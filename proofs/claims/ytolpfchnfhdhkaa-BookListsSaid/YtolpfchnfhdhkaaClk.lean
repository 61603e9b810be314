/-
  Clocks, plain: five numbers; what was seen, joined, compared, and one more.
-/
import Derived.Test.YtolpfchnfhdhkaaBlk
import Derived.WalkKit
import Derived.OwnWalk
import Derived.ProofKit
import Derived.Below
import Derived.Outline
import Derived.Handy
import Derived.Lib.Hide
import Derived.Deep.Draws
import Derived.Deep.QuietTactic
import Derived.BigQuiet
import Derived.Deep.RegionWith
import Derived.Deep.DrawnRows
namespace Go.Proofs.Ytolpfchnfhdhkaa
open Go.RowKit
set_option maxRecDepth 100000

/-- A clock: how many of each of the five were seen. -/
structure Ck where
  c0 : Int
  c1 : Int
  c2 : Int
  c3 : Int
  c4 : Int
namespace Ck
def val (c : Ck) : Value := .agg #[.int .i64 c.c0, .int .i64 c.c1, .int .i64 c.c2, .int .i64 c.c3, .int .i64 c.c4]
def cells (c : Ck) : Array Value := #[.int .i64 c.c0, .int .i64 c.c1, .int .i64 c.c2, .int .i64 c.c3, .int .i64 c.c4]
def get (c : Ck) : Nat → Int
  | 0 => c.c0
  | 1 => c.c1
  | 2 => c.c2
  | 3 => c.c3
  | 4 => c.c4
  | _ => 0
def zero : Ck := ⟨0, 0, 0, 0, 0⟩
def join (a b : Ck) : Ck := ⟨max a.c0 b.c0, max a.c1 b.c1, max a.c2 b.c2, max a.c3 b.c3, max a.c4 b.c4⟩
def le (a b : Ck) : Bool := decide (a.c0 ≤ b.c0 ∧ a.c1 ≤ b.c1 ∧ a.c2 ≤ b.c2 ∧ a.c3 ≤ b.c3 ∧ a.c4 ≤ b.c4)
def rep (r : Int) : Bool := decide (0 ≤ r ∧ r < 5)
/-- Event n of r was seen. -/
def has (c : Ck) (r n : Int) : Bool := rep r && decide (1 ≤ n ∧ n ≤ c.get r.toNat)
def set (c : Ck) (r : Nat) (x : Int) : Ck := ⟨if r = 0 then x else c.c0, if r = 1 then x else c.c1, if r = 2 then x else c.c2, if r = 3 then x else c.c3, if r = 4 then x else c.c4⟩
def next (c : Ck) (r : Int) : Ck := if rep r && decide (c.get r.toNat < 1048576) then c.set r.toNat (c.get r.toNat + 1) else zero
def nextErr (c : Ck) (r : Int) : Int := if rep r then (if c.get r.toNat < 1048576 then 0 else 25) else 1
def In (x : Int) : Prop := -9223372036854775808 ≤ x ∧ x ≤ 9223372036854775807
def Wf (c : Ck) : Prop := In c.c0 ∧ In c.c1 ∧ In c.c2 ∧ In c.c3 ∧ In c.c4

theorem ext_iff' (a b : Ck) : a = b ↔ a.c0 = b.c0 ∧ a.c1 = b.c1 ∧ a.c2 = b.c2 ∧ a.c3 = b.c3 ∧ a.c4 = b.c4 := by
  cases a; cases b; simp
instance : DecidableEq Ck := fun a b => decidable_of_iff _ (ext_iff' a b).symm
def eqB (a b : Ck) : Bool := decide (a = b)
theorem rep_nat {r : Int} (h : rep r = true) : ∃ k : Nat, r = k ∧ k < 5 := by
  simp [rep] at h
  exact ⟨r.toNat, by omega, by omega⟩
theorem le_iff (a b : Ck) : le a b = true ↔ ∀ j, j < 5 → a.get j ≤ b.get j := by
  simp only [le, decide_eq_true_eq]
  constructor
  · rintro ⟨h0, h1, h2, h3, h4⟩ j hj
    match j, hj with
    | 0, _ | 1, _ | 2, _ | 3, _ | 4, _ => assumption
  · intro h
    exact ⟨h 0 (by omega), h 1 (by omega), h 2 (by omega), h 3 (by omega), h 4 (by omega)⟩
theorem le_false {a b : Ck} {j : Nat} (hj : j < 5) (h : ¬ a.get j ≤ b.get j) : le a b = false := by
  rw [← Bool.not_eq_true]
  intro hl
  exact h ((le_iff a b).1 hl j hj)
theorem join_comm (a b : Ck) : join a b = join b a := by simp [join, Int.max_comm]
theorem join_assoc (a b c : Ck) : join (join a b) c = join a (join b c) := by simp [join, Int.max_assoc]
theorem join_self (a : Ck) : join a a = a := by simp [join]
theorem le_true (a b : Ck) : le a b = true ↔ a.c0 ≤ b.c0 ∧ a.c1 ≤ b.c1 ∧ a.c2 ≤ b.c2 ∧ a.c3 ≤ b.c3 ∧ a.c4 ≤ b.c4 := by
  unfold le; exact decide_eq_true_iff
theorem le_join_left (a b : Ck) : le a (join a b) = true := (le_true _ _).2 ⟨Int.le_max_left .., Int.le_max_left .., Int.le_max_left .., Int.le_max_left .., Int.le_max_left ..⟩
theorem le_join_right (a b : Ck) : le b (join a b) = true := (le_true _ _).2 ⟨Int.le_max_right .., Int.le_max_right .., Int.le_max_right .., Int.le_max_right .., Int.le_max_right ..⟩
theorem max_right (x y : Int) : max x y = y ↔ x ≤ y := by
  rw [Int.max_def]; split <;> omega
theorem le_eq_join (a b : Ck) : eqB (join a b) b = le a b := by
  rw [Bool.eq_iff_iff]
  simp only [eqB, le, decide_eq_true_eq, ext_iff', join, max_right]
theorem join_least {a b c : Ck} (h1 : le a c = true) (h2 : le b c = true) : le (join a b) c = true := by
  rw [le_true] at *
  exact ⟨Int.max_le.2 ⟨h1.1, h2.1⟩, Int.max_le.2 ⟨h1.2.1, h2.2.1⟩, Int.max_le.2 ⟨h1.2.2.1, h2.2.2.1⟩, Int.max_le.2 ⟨h1.2.2.2.1, h2.2.2.2.1⟩, Int.max_le.2 ⟨h1.2.2.2.2, h2.2.2.2.2⟩⟩
theorem get_join (a b : Ck) (j : Nat) : (join a b).get j = max (a.get j) (b.get j) := by
  match j with
  | 0 | 1 | 2 | 3 | 4 => rfl
  | _ + 5 => rfl
theorem has_join (a b : Ck) (r n : Int) : has (join a b) r n = (has a r n || has b r n) := by
  unfold has
  rw [get_join]
  cases rep r
  · rfl
  · rw [Bool.eq_iff_iff, Int.max_def]
    simp only [Bool.true_and, Bool.or_eq_true, decide_eq_true_eq]
    split <;> omega
theorem has_le {a b : Ck} {r n : Int} (h1 : has a r n = true) (h2 : has b r n = false) : le a b = false := by
  rw [← Bool.not_eq_true]
  intro hl
  rw [le_iff] at hl
  rw [← Bool.not_eq_true] at h2
  unfold has at h1 h2
  simp only [Bool.and_eq_true, decide_eq_true_eq, rep] at h1 h2
  have := hl r.toNat (by omega)
  omega
theorem has_none (a : Ck) (r n : Int) (h : r < 0 ∨ 5 ≤ r ∨ n < 1) : has a r n = false := by
  rw [← Bool.not_eq_true]
  unfold has rep
  simp only [Bool.and_eq_true, decide_eq_true_eq]
  omega
theorem get_in {c : Ck} (h : c.Wf) (j : Nat) : In (c.get j) := by
  obtain ⟨h0, h1, h2, h3, h4⟩ := h
  unfold In at *
  match j with
  | 0 | 1 | 2 | 3 | 4 => simp only [get]; omega
  | _ + 5 => simp [get]
theorem cell_alloc (w : World) (c : Ck) (t : TypeId) (j : Nat) (hj : j < 5) : (w.alloc (.cells c.cells t)).cell? ⟨w.heap.size, j, none⟩ = some (.int .i64 (c.get j)) := by
  unfold cells
  match j, hj with
  | 0, _ | 1, _ | 2, _ | 3, _ | 4, _ => simp [go_sem, get]
end Ck
theorem i64_mask (n : Int) (k : Nat) (hk : k < 63) (h : (BitVec.ofInt 64 (((2 ^ k : Nat) : Int) - 1)).toNat = 2 ^ k - 1) : bits .and .i64 n (((2 ^ k : Nat) : Int) - 1) = n % ((2 ^ k : Nat) : Int) := by
  have key : (BitVec.ofInt 64 n &&& BitVec.ofInt 64 (((2 ^ k : Nat) : Int) - 1)).toNat = (n % ((2 ^ 64 : Nat) : Int)).toNat % 2 ^ k := by
    rw [BitVec.toNat_and, BitVec.toNat_ofInt, h, Nat.and_two_pow_sub_one_eq_mod]
  show IntKind.i64.wrap ((BitVec.ofInt 64 n &&& BitVec.ofInt 64 (((2 ^ k : Nat) : Int) - 1)).toNat : Nat) = n % ((2 ^ k : Nat) : Int)
  have hd : (2 ^ k : Nat) ∣ 2 ^ 64 := Nat.pow_dvd_pow 2 (by omega)
  have hp : 0 < 2 ^ k := Nat.two_pow_pos k
  have hlt : 2 ^ k ≤ 2 ^ 62 := Nat.pow_le_pow_right (by omega) (by omega)
  rw [key, IntKind.wrap_i64]
  have e : (((n % ((2 ^ 64 : Nat) : Int)).toNat % 2 ^ k : Nat) : Int) = n % ((2 ^ k : Nat) : Int) := by
    rw [Int.natCast_emod, Int.toNat_of_nonneg (Int.emod_nonneg _ (by decide))]
    exact Int.emod_emod_of_dvd n (Int.natCast_dvd_natCast.2 hd)
  rw [e]
  generalize hq : (2 ^ k : Nat) = q at *
  have h1 := Int.emod_nonneg n (show (q : Int) ≠ 0 by omega)
  have h2 := Int.emod_lt_of_pos n (show (0 : Int) < q by omega)
  omega
theorem i64_and1023 (n : Int) : bits .and .i64 n 1023 = n % 1024 := i64_mask n 10 (by omega) (by decide)
theorem i64_and511 (n : Int) : bits .and .i64 n 511 = n % 512 := i64_mask n 9 (by omega) (by decide)
theorem i64_and3 (n : Int) : bits .and .i64 n 3 = n % 4 := i64_mask n 2 (by omega) (by decide)
theorem i64_andM (n : Int) : bits .and .i64 n 1048575 = n % 1048576 := i64_mask n 20 (by omega) (by decide)
end Go.Proofs.Ytolpfchnfhdhkaa
