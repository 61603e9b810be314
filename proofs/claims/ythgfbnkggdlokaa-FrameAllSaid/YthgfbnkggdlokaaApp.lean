/-
  Bytes appended to a row of the call's own, out of whatever slice.
-/
import Derived.Test.YthgfbnkggdlokaaBase
import Derived.Laws.CopyOwn
import Derived.Laws.IdiomCopy
import Derived.Laws.MakeOwn
import Derived.Laws.OwnMore
namespace Go.Proofs.Ythgfbnkggdlokaa
open Go.RowKit
set_option maxRecDepth 100000

theorem slc_cells {w : World} {b off : Nat} {n cap : Nat} {ys : List Nat} (h : Slc w (some ⟨b, off, none⟩) n cap ys) (j : Nat) (u : Value) (hu : (ys.map bv)[j]? = some u) : w.cell? ((⟨b, off, none⟩ : Addr).add j) = some u := by
  obtain ⟨hl, hc, hm, hlt, hcell⟩ := h
  have hj : j < ys.length := by
    rcases Nat.lt_or_ge j ys.length with h | h
    · exact h
    · rw [List.getElem?_eq_none (by simpa using h)] at hu; cases hu
  obtain ⟨b', off', e, _, hcl⟩ := hcell (by omega)
  obtain ⟨rfl, rfl⟩ : b = b' ∧ off = off' := by simpa using e
  have hadd : (⟨b, off, none⟩ : Addr).add j = ⟨b, off + j, none⟩ := by unfold Addr.add; split <;> simp_all
  rw [hadd, hcl j (by omega), ← hu]
  simp [Pl.nth, hj]
theorem bvs_one (ys : List Nat) : ∀ u ∈ ys.map bv, u.oneCell' = true := fun u hu => by
  obtain ⟨x, _, rfl⟩ := List.mem_map.1 hu
  simp [bv, Value.oneCell']

/-- Nothing is appended. -/
theorem run_append_nothing {w : World} {base : Nat} {v : Value} {n : Nat} {xs : List Value} (hown : w.ownsRow base 5 1 v n xs) (ty : TypeId) (c : Nat) :
    (Builtin.append_ #[27, 27] ty #[v, .slice none 0 c]).run Try.prog w = .ok v w := by
  obtain ⟨i0, hi, hz0, hz1, hz2⟩ := info_parts info5
  rcases hown.2 with ⟨rfl, rfl⟩ | ⟨g, cap, cur, rfl, _, _, hnc, _⟩
  · simp [Builtin.append_, run_underlying Try.underlying27, sizeOf, typeInfo, hi, Builtin.lenOf, Builtin.firstCells]
  · simp [Builtin.append_, run_underlying Try.underlying27, sizeOf, typeInfo, hi, Builtin.lenOf, Builtin.firstCells, hnc, storeCells]

theorem wp_append_slc {w : World} {o : Oper} {a : Act} {K : Act → World → Prop} {Q : Exit → Act → World → Prop} (s x : Operand)
    (ho : o.op = .call { callee := .builtin .append, args := #[s, x], argTypes := #[27, 27] })
    (base : Nat) (v : Value) (n : Nat) (xs : List Nat) (hs : a.eval s = v) (hown : w.ownsRow base 5 1 v n (xs.map bv))
    (A : Option Addr) (m c : Nat) (ys : List Nat) (hx : a.eval x = .slice A m c) (hslc : Slc w A m c ys)
    (hn : n + m ≤ 140737488355328) (hbase : base ≤ w.heap.size)
    (h : ∀ v' w', w'.ownsRow base 5 1 v' (n + m) ((xs ++ ys).map bv) → w.grownBy w' v.ownBlock → K (a.put o.dst v') w') : o.wp Try.prog a w K Q := by
  obtain ⟨i0, hi, hz0, hz1, hz2⟩ := info_parts info5
  have hl := hslc.1
  rcases A with _ | ⟨b, off, sp⟩
  · have h0 : m = 0 := by
      rcases Nat.eq_zero_or_pos m with h | h
      · exact h
      · obtain ⟨b, off, e, _⟩ := hslc.2.2.2.2 h; cases e
    subst h0
    have hy : ys = [] := List.eq_nil_of_length_eq_zero hl
    subst hy
    have hrun := run_append_nothing hown o.type c
    unfold Oper.wp execOp
    simp only [ho, resolve, invoke, builtin, Sem.run_bind, Sem.run_pure, Result.andThen_ok, List.map_toArray, List.map_cons, List.map_nil, hs, hx, hrun]
    exact h v w (by simpa using hown) (World.grownBy.refl w _)
  · by_cases h0 : m = 0
    · subst h0
      have hy : ys = [] := List.eq_nil_of_length_eq_zero hl
      subst hy
      refine wp_append_own w s x 27 ho base 5 i0 (.int .u8 0) 1 1 Try.underlying27 hi hz0 hz1 hz2 rfl (by decide) v n (xs.map bv) hs hown ⟨b, off, sp⟩ 0 c [] hx rfl (fun j u hu => by cases hu) (fun u hu => by cases hu)
        (by simp only [maxLen]; omega) (by omega) hbase fun v' w' h1 h2 _ => h v' w' (by simpa using h1) h2
    · obtain ⟨b', off', e, _⟩ := hslc.2.2.2.2 (by omega)
      obtain ⟨rfl, rfl, rfl⟩ : b = b' ∧ off = off' ∧ sp = none := by simpa using e
      refine wp_append_own w s x 27 ho base 5 i0 (.int .u8 0) 1 1 Try.underlying27 hi hz0 hz1 hz2 rfl (by decide) v n (xs.map bv) hs hown ⟨b, off, none⟩ m c (ys.map bv) hx (by simp [hl]) (slc_cells hslc) (bvs_one ys)
        (by simp only [maxLen]; omega) (by omega) hbase fun v' w' h1 h2 _ => h v' w' (by simpa using h1) h2
theorem wpList_append_slc {w : World} {ops : Array Oper} {rest : List Oper} {o : Oper} {a : Act} {Q : Exit → Act → World → Prop} (hgd : o.guard = none) (s x : Operand)
    (ho : o.op = .call { callee := .builtin .append, args := #[s, x], argTypes := #[27, 27] })
    (base : Nat) (v : Value) (n : Nat) (xs : List Nat) (hs : a.eval s = v) (hown : w.ownsRow base 5 1 v n (xs.map bv))
    (A : Option Addr) (m c : Nat) (ys : List Nat) (hx : a.eval x = .slice A m c) (hslc : Slc w A m c ys)
    (hn : n + m ≤ 140737488355328) (hbase : base ≤ w.heap.size)
    (h : ∀ v' w', w'.ownsRow base 5 1 v' (n + m) ((xs ++ ys).map bv) → w.grownBy w' v.ownBlock → wpList Try.prog ops Q rest (a.put o.dst v') w') : wpList Try.prog ops Q (o :: rest) a w :=
  wpList_plain hgd fun _ hK => wp_append_slc s x ho base v n xs hs hown A m c ys hx hslc hn hbase fun v' w' h1 h2 => hK _ _ (h v' w' h1 h2)
/-- The same where the operation is guarded, and wanted. -/
theorem wpList_append_slc_if {w : World} {ops : Array Oper} {rest : List Oper} {o : Oper} {a : Act} {Q : Exit → Act → World → Prop} (hw : Region.wanted o (yielded ops a.tmps) = true) (s x : Operand)
    (ho : o.op = .call { callee := .builtin .append, args := #[s, x], argTypes := #[27, 27] })
    (base : Nat) (v : Value) (n : Nat) (xs : List Nat) (hs : a.eval s = v) (hown : w.ownsRow base 5 1 v n (xs.map bv))
    (A : Option Addr) (m c : Nat) (ys : List Nat) (hx : a.eval x = .slice A m c) (hslc : Slc w A m c ys)
    (hn : n + m ≤ 140737488355328) (hbase : base ≤ w.heap.size)
    (h : ∀ v' w', w'.ownsRow base 5 1 v' (n + m) ((xs ++ ys).map bv) → w.grownBy w' v.ownBlock → wpList Try.prog ops Q rest (a.put o.dst v') w') : wpList Try.prog ops Q (o :: rest) a w :=
  BigFrame.wpList_want hw fun _ hK => wp_append_slc s x ho base v n xs hs hown A m c ys hx hslc hn hbase fun v' w' h1 h2 => hK _ _ (h v' w' h1 h2)

/-- m zero bytes, as make lays them. -/
def zer (m : Nat) : Array Value := ((List.replicate m 0).map bv).toArray
theorem madeCells_zer (m : Nat) : madeCells #[Value.int IntKind.u8 0] m = zer m := by
  apply Array.ext'
  rw [toList_madeCells_one]
  simp [zer, bv]
/-- 'make([]byte, m)'. -/
theorem run_make_zer (W : World) (m : Nat) (hm : m ≤ 281474976710656) : (Instr.makeSlice 27 (.int .i64 m) (.int .i64 m)).run Try.prog W = .ok (.slice (some ⟨W.heap.size, 0, none⟩) m m) (W.alloc (.cells (zer m) 5)) := by
  obtain ⟨i0, hi, hz0, hz1, hz2⟩ := info_parts info5
  have := run_make (P := Try.prog) W 27 5 i0 (.int .u8 0) Try.underlying27 hi hz0 .i64 .i64 m m (by omega) (Int.le_refl _) (by rw [hz2]; omega) (by omega)
  rw [this]
  simp only [Int.toNat_natCast, hz1, Nat.mul_one, Value.cells, madeCells_zer]
set_option maxRecDepth 100000 in
theorem wp_copy_slc {w : World} {o : Oper} {a : Act} {K : Act → World → Prop} {Q : Exit → Act → World → Prop} (d s : Operand)
    (ho : o.op = .call { callee := .builtin .copy, args := #[d, s], argTypes := #[27, 27] })
    (g m : Nat) (cur : List Nat) (t : TypeId) (hd : a.eval d = .slice (some ⟨g, 0, none⟩) m m) (hcl : cur.length = m) (hg : w.heap[g]? = some (.cells (cur.map bv).toArray t (0, 0)))
    (A : Option Addr) (n c : Nat) (ys : List Nat) (hs : a.eval s = .slice A n c) (hslc : Slc w A n c ys)
    (h : ∀ w', w'.heap[g]? = some (.cells ((ys.take m ++ cur.drop n).map bv).toArray t (0, 0)) → w.grownBy w' (some g) → K (a.put o.dst (goInt ((Nat.min n m : Nat) : Int))) w') : o.wp Try.prog a w K Q := by
  obtain ⟨i0, hi, hz0, hz1, hz2⟩ := info_parts info5
  have hl := hslc.1
  have hsz : ((Try.prog.info? 5).map (·.size)) = some 1 := by rw [hi]; simp [hz1]
  have hcs : ((ys.take m).map bv).length = Nat.min n m := by simp [hl, Nat.min_comm m n]
  have hmin : Nat.min n m = min n m := rfl
  by_cases h0 : Nat.min n m = 0
  · have hrun := run_copy_none (P := Try.prog) w 27 27 o.type 5 (some ⟨g, 0, none⟩) A m m n c Try.underlying27 hsz h0
    unfold Oper.wp execOp
    simp only [ho, resolve, invoke, builtin, Sem.run_bind, Sem.run_pure, Result.andThen_ok, List.map_toArray, List.map_cons, List.map_nil, hd, hs, hrun]
    have hk := h w ?_ (World.grownBy.refl w _)
    · rw [h0] at hk; exact hk
    · have : ys.take m ++ cur.drop n = cur := by
        have : n = 0 ∨ m = 0 := by omega
        rcases this with rfl | rfl
        · have : ys = [] := List.eq_nil_of_length_eq_zero hl
          subst this; simp
        · have : cur = [] := List.eq_nil_of_length_eq_zero hcl
          subst this; simp
      rw [this]; exact hg
  · obtain ⟨b, off, rfl, hbl, hcell⟩ := hslc.2.2.2.2 (by omega)
    have hrun := run_copy_row (P := Try.prog) w 27 27 o.type 5 g 0 m m ⟨b, off, none⟩ n c (cur.map bv).toArray t ((ys.take m).map bv) Try.underlying27 hsz hg hcs
      (fun j v hv => by
        have hj : j < (ys.take m).length := by
          rcases Nat.lt_or_ge j (ys.take m).length with h | h
          · exact h
          · rw [List.getElem?_eq_none (by simpa using h)] at hv; cases hv
        have hj2 : j < n ∧ j < m := by rw [List.length_take] at hj; omega
        have hadd : (⟨b, off, none⟩ : Addr).add j = ⟨b, off + j, none⟩ := by unfold Addr.add; split <;> simp_all
        rw [hadd, hcell j hj2.1, ← hv]
        have hjy : j < ys.length := by omega
        simp [Pl.nth, hj2.2, hjy])
      (by rw [hcs]; simp; omega) (by intro v hv; obtain ⟨x, _, rfl⟩ := List.mem_map.1 hv; simp [bv, Value.oneCell'])
    rw [hcs] at hrun
    have e : (List.take 0 (List.map bv cur).toArray.toList ++ List.map bv (List.take m ys) ++ List.drop (0 + Nat.min n m) (List.map bv cur).toArray.toList) = (ys.take m ++ cur.drop n).map bv := by
      rw [List.map_append, List.map_drop]
      simp only [List.take_zero, List.nil_append, Nat.zero_add]
      congr 1
      rcases Nat.le_total n m with hnm | hnm
      · rw [hmin, Nat.min_eq_left hnm]
      · rw [hmin, Nat.min_eq_right hnm, List.drop_eq_nil_of_le (by simp; omega), List.drop_eq_nil_of_le (by simp; omega)]
    rw [e] at hrun
    unfold Oper.wp execOp
    simp only [ho, resolve, invoke, builtin, Sem.run_bind, Sem.run_pure, Result.andThen_ok, List.map_toArray, List.map_cons, List.map_nil, hd, hs, hrun]
    refine h _ (setRow_heap w g _ _ t _ hg) ⟨rfl, rfl, rfl, by simp [World.setRow], fun k hk hne => setRow_other w g k _ (by intro he; exact hne (by rw [he]))⟩
theorem wpList_copy_slc {w : World} {ops : Array Oper} {rest : List Oper} {o : Oper} {a : Act} {Q : Exit → Act → World → Prop} (hgd : o.guard = none) (d s : Operand)
    (ho : o.op = .call { callee := .builtin .copy, args := #[d, s], argTypes := #[27, 27] })
    (g m : Nat) (cur : List Nat) (t : TypeId) (hd : a.eval d = .slice (some ⟨g, 0, none⟩) m m) (hcl : cur.length = m) (hg : w.heap[g]? = some (.cells (cur.map bv).toArray t (0, 0)))
    (A : Option Addr) (n c : Nat) (ys : List Nat) (hs : a.eval s = .slice A n c) (hslc : Slc w A n c ys)
    (h : ∀ w', w'.heap[g]? = some (.cells ((ys.take m ++ cur.drop n).map bv).toArray t (0, 0)) → w.grownBy w' (some g) → wpList Try.prog ops Q rest (a.put o.dst (goInt ((Nat.min n m : Nat) : Int))) w') : wpList Try.prog ops Q (o :: rest) a w :=
  wpList_plain hgd fun _ hK => wp_copy_slc d s ho g m cur t hd hcl hg A n c ys hs hslc fun w' h1 h2 => hK _ _ (h w' h1 h2)
end Go.Proofs.Ythgfbnkggdlokaa
