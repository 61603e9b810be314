/-
  Two events compared.
-/
import Derived.Test.YtolpfchnfhdhkaaEvM
import Derived.Laws.StructEq
namespace Go.Proofs.Ytolpfchnfhdhkaa
open Go.RowKit
set_option maxRecDepth 100000

theorem eq_five (d : Nat) (a b : Ck) (w : World) : (Op.equalIn (d + 1 + 1) 24 (.agg #[.int .i64 a.c0, .int .i64 a.c1, .int .i64 a.c2, .int .i64 a.c3, .int .i64 a.c4]) (.agg #[.int .i64 b.c0, .int .i64 b.c1, .int .i64 b.c2, .int .i64 b.c3, .int .i64 b.c4])).run Try.prog w = .ok (decide (a = b)) w := by
  have u5 := Try.underlying3
  have a5 := Try.isAgg3
  have z5 := Try.sizeOf3
  rw [Op.equalIn]
  simp only [Sem.run_bind, run_underlying Try.underlying24, Result.andThen_ok]
  simp only [Std.Legacy.Range.forIn_eq_forIn_range', Std.Legacy.Range.size, Nat.sub_zero, Nat.add_sub_cancel, Nat.div_one, List.range'_succ, List.range'_zero, List.forIn_cons, List.forIn_nil]
  go_simp
  rw [show decide (a = b) = decide (a.c0 = b.c0 ∧ a.c1 = b.c1 ∧ a.c2 = b.c2 ∧ a.c3 = b.c3 ∧ a.c4 = b.c4) from decide_eq_decide.2 (Ck.ext_iff' a b)]
  by_cases h0 : a.c0 = b.c0 <;> by_cases h1 : a.c1 = b.c1 <;> by_cases h2 : a.c2 = b.c2 <;> by_cases h3 : a.c3 = b.c3 <;> by_cases h4 : a.c4 = b.c4 <;> simp [h0, h1, h2, h3, h4]
theorem Ev.ext_iff' (a b : Ev) : a = b ↔ a.r = b.r ∧ a.n = b.n ∧ a.c = b.c ∧ a.h = b.h ∧ a.k = b.k ∧ a.key = b.key ∧ a.l = b.l ∧ a.v = b.v := by
  cases a; cases b; simp
theorem bytes_ext (a b : ByteArray) : (a.toList = b.toList) = (a = b) := by
  apply propext
  rw [ByteArray.toList_eq, ByteArray.toList_eq]
  constructor
  · intro h
    apply ByteArray.ext
    exact Array.toList_inj.1 h
  · rintro rfl; rfl
theorem eq_ev (a b : Ev) (w : World) : (Op.equalIn 10000 39 (.agg #[.int .i64 a.r, .int .i64 a.n, .int .i64 a.c.c0, .int .i64 a.c.c1, .int .i64 a.c.c2, .int .i64 a.c.c3, .int .i64 a.c.c4, .int .i64 a.h, .int .i64 a.k, .string a.key, .int .i64 a.l, .string a.v]) (.agg #[.int .i64 b.r, .int .i64 b.n, .int .i64 b.c.c0, .int .i64 b.c.c1, .int .i64 b.c.c2, .int .i64 b.c.c3, .int .i64 b.c.c4, .int .i64 b.h, .int .i64 b.k, .string b.key, .int .i64 b.l, .string b.v])).run Try.prog w = .ok (decide (a = b)) w := by
  have u5 := Try.underlying3
  have a5 := Try.isAgg3
  have z5 := Try.sizeOf3
  rw [show (10000 : Nat) = 9999 + 1 from rfl, run_equalIn_struct w 9999 39 _ _ (by kernel_rfl) (by kernel_rfl)]
  have u25 := Try.underlying39
  have hc := fun w => eq_five 9997 a.c b.c w
  go_simp
  simp only [bytes_ext]
  by_cases h : a = b
  · subst h; simp
  · have h' := mt (Ev.ext_iff' a b).2 h
    rw [decide_eq_false h]
    repeat' split
    all_goals first | rfl | (exfalso; apply h'; refine ⟨?_, ?_, ?_, ?_, ?_, ?_, ?_, ?_⟩ <;> assumption)
end Go.Proofs.Ytolpfchnfhdhkaa
