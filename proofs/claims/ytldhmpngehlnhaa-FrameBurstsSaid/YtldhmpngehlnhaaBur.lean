/-
  Bits turned, one after another: what the loop of a statement keeps.
-/
import Derived.Test.YtldhmpngehlnhaaSeal
namespace Go.Proofs.Ytldhmpngehlnhaa
open Go.RowKit
set_option maxRecDepth 100000

/-- The row of turned bytes: the first i bits of the mask are turned, from bit k on. -/
def BurRel (g B : Nat) (s : List Nat) (L c4 k mask : Nat) (w3 : World) (v15 : Value) (wr : World) : Prop :=
  ∃ (i : Nat) (ts : List Nat), i ≤ 32 ∧ k + i ≤ 8 * L ∧ v15 = .int .i64 i ∧ ts.length = L ∧ (∀ x ∈ ts, x < 256) ∧ Cr.le ts = Cr.le s ^^^ 2 ^ k * (mask % 2 ^ i) ∧
    wr.ownsRow B 5 1 (.slice (some ⟨g, 0, none⟩) L c4) L (ts.map bv) ∧ Below B w3 wr
theorem shr_bit (mask i : Nat) (h : mask < 4294967296) : bits BinOp.and IntKind.u32 ((mask : Int) / 2 ^ i) 1 = ((mask / 2 ^ i % 2 : Nat) : Int) := by
  have e : (mask : Int) / 2 ^ i = ((mask / 2 ^ i : Nat) : Int) := by simp [Int.natCast_ediv]
  have hlt : mask / 2 ^ i < 4294967296 := Nat.lt_of_le_of_lt (Nat.div_le_self _ _) h
  have := u32_and_nat (mask / 2 ^ i) 1 hlt (by omega)
  rw [Nat.and_one_is_mod] at this
  rw [e]; exact this

theorem mask_step (k mask i : Nat) (h : mask / 2 ^ i % 2 = 1) : 2 ^ k * (mask % 2 ^ (i + 1)) = 2 ^ k * (mask % 2 ^ i) ^^^ 2 ^ (k + i) := by
  rw [Nat.mod_pow_succ, h, Nat.add_comm, Cr.add_xor (Nat.mod_lt _ (Nat.two_pow_pos i)), Nat.xor_comm, Nat.mul_one]
  have h1 := @Nat.shiftLeft_xor_distrib k (mask % 2 ^ i) (2 ^ i)
  simp only [Nat.shiftLeft_eq] at h1
  rw [Nat.mul_comm (2 ^ k), h1, Nat.mul_comm _ (2 ^ k), Nat.pow_add, Nat.mul_comm (2 ^ i)]

end Go.Proofs.Ytldhmpngehlnhaa
