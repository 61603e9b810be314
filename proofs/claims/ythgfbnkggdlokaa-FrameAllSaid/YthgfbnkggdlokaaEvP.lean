/-
  The walks of event.withText and event.Put.
-/
import Derived.Test.YthgfbnkggdlokaaEvM
import Derived.Test.YthgfbnkggdlokaaApp
import Derived.Test.YthgfbnkggdlokaaRun
import Derived.Lib.AppendStr
import Derived.Deep.RegionLaw
namespace Go.Proofs.Ythgfbnkggdlokaa
open Go.RowKit
set_option maxRecDepth 100000

/-- A call of a Go function as a step of a region that draws its order. -/
theorem step_callx {P : Program} {w : World} {ops : Array Oper} {o : Oper} {a : Act} {K : Act → World → Prop} {Q : Exit → Act → World → Prop} {F : Prop} {f : FuncId} {args : Array Value} {R : Ending → World → Prop}
    (hw : Region.wanted o (yielded ops a.tmps) = true) (hc : Calls P f args w R) (he : (execOp a.eval o).run P w = .ok (.enter f args) w)
    (h : ∀ e w', R e w' → ∃ v, e = .returned v ∧ K (a.put o.dst v) w') : if Region.wanted o (yielded ops a.tmps) = true then Oper.wp P o a w K Q else F := by
  rw [if_pos hw]
  unfold Oper.wp
  simp only [he, Oper.upon]
  exact hc.mono fun e w' hr => by obtain ⟨v, rfl, hk⟩ := h e w' hr; exact hk
theorem ES8 : Elem Try.prog 27 5 (.int .u8 0) 1 1 := ⟨Try.underlying27, info5, rfl, by decide⟩
theorem strCells_raw (s : ByteArray) : Lib.strCells s = (Ev.raw s).map bv := by
  simp [Lib.strCells, Ev.raw, bv, Function.comp_def]

theorem withText_any (B n : Nat) (v : Value) (xs : List Nat) (s : ByteArray) (w : World) (hown : w.ownsRow B 5 1 v n (xs.map bv)) (hB : B ≤ w.heap.size) (hs : s.size < 256) (hn : n ≤ 1000) :
    Calls Try.prog 119 #[v, .string s] w fun e w' => ∃ v', e = .returned v' ∧ w'.ownsRow B 5 1 v' (n + 1 + s.size) ((xs ++ Ev.txt s).map bv) ∧ Below B w w' := by
  obtain ⟨i0, hi, hz0, hz1, hz2⟩ := info_parts info5
  have hwr : IntKind.u8.wrap (s.size : Int) = s.size := by rw [IntKind.wrap_u8]; omega
  have O0 := Lib.hid (hown.alloc (.cells #[.int .u8 (s.size : Int)] 5))
  have S1 := Lib.hid (slc_new (w := w.alloc (.cells #[.int .u8 (s.size : Int)] 5)) (g := w.heap.size) (t := 5) (fr := (0, 0)) [s.size] (heap_alloc_new _ _) (by simpa using hs) (by simp))
  have B0 := Lib.hid ((Below.refl B w).alloc hB (.cells #[.int .u8 (s.size : Int)] 5))
  have TX := Lib.hid (show ((xs ++ [s.size]).map bv ++ Lib.strCells s) = (xs ++ Ev.txt s).map bv by rw [strCells_raw]; simp [Ev.txt])
  have OB := Lib.hid (own_base hown)
  clear hown
  go_enter Try.func119, Try.ntmps119
  go_wp2_with (at_builtin; refine wpList_append_slc rfl _ _ rfl B v n xs rfl O0.out _ 1 1 [s.size] rfl S1.out (by omega) (by simp; omega) ?_)
  intro v1 w1 hown1 hg1
  have B1 := Lib.hid (Below.grown B0.out hg1 (by simp; omega) OB.out)
  have O1 := Lib.hid (show w1.ownsRow B 5 1 v1 (n + 1) ((xs ++ [s.size]).map bv) by simpa using hown1)
  have Z1 : B ≤ w1.heap.size := Nat.le_trans hB B1.out.size
  have OB1 := Lib.hid (own_base hown1)
  clear hown1 hg1
  go_wp2_with (at_builtin; refine Lib.wpList_append_own_string (P := Try.prog) _ rfl _ _ _ _ rfl B 5 i0 Try.underlying27 Try.underlying9 hi hz0 hz1 hz2 v1 (n + 1) ((xs ++ [s.size]).map bv) rfl O1.out s rfl (by simp only [maxLen]; omega) (by omega) Z1 ?_)
  intro v2 w2 hown2 hg2 _
  have B2 := Lib.hid (Below.grown B1.out hg2 Z1 OB1.out)
  have O2 := Lib.hid (show w2.ownsRow B 5 1 v2 (n + 1 + s.size) ((xs ++ Ev.txt s).map bv) by rw [← TX.out]; simpa using hown2)
  clear hown2 hg2
  go_wp2
  go_ret
  exact ⟨v2, rfl, O2.out, B2.out⟩
end Go.Proofs.Ythgfbnkggdlokaa
