/-
  The walks of begin and sightOf.
-/
import Derived.Test.YtolpfchnfhdhkaaSgu
namespace Go.Proofs.Ytolpfchnfhdhkaa
open Go.RowKit
set_option maxRecDepth 100000
set_option maxRecDepth 100000

namespace Bk
def begun (c : Ck) (x : Ev) : Ck := if c.get x.r.toNat = 0 ∨ x.n < c.get x.r.toNat then c.set x.r.toNat x.n else c
/-- A Create that lives, and has a mark. -/
def isFirst (es : List Ev) (x : Ev) : Prop := x.k = 1 ∧ underC es 2 x = false ∧ 0 ≤ x.r ∧ x.r < 5 ∧ 1 ≤ x.n
instance (es : List Ev) (x : Ev) : Decidable (isFirst es x) := by unfold isFirst; infer_instance
def first (es pre : List Ev) (key : ByteArray) : Ck := pre.foldl (fun c x => if isFirst es x ∧ x.key = key then begun c x else c) Ck.zero
theorem first_add (es pre : List Ev) (x : Ev) (key : ByteArray) : first es (pre ++ [x]) key = if isFirst es x ∧ x.key = key then begun (first es pre key) x else first es pre key := by
  simp [first, List.foldl_append]
def FirstOk (ms : List (ByteArray × Value)) (es pre : List Ev) : Prop := ∀ key, (Gm.get ms key).getD Ck.zero.val = (first es pre key).val
theorem firstOk_nil (es : List Ev) : FirstOk [] es [] := fun _ => rfl
def begunM (ms : List (ByteArray × Value)) (c : Ck) (x : Ev) : List (ByteArray × Value) := if c.get x.r.toNat = 0 ∨ x.n < c.get x.r.toNat then Gm.put ms x.key (c.set x.r.toNat x.n).val else ms
theorem firstOk_add {ms : List (ByteArray × Value)} {es pre : List Ev} (h : FirstOk ms es pre) (x : Ev) (hx : isFirst es x) : FirstOk (begunM ms (first es pre x.key) x) es (pre ++ [x]) := fun key => by
  rw [first_add]
  by_cases hk : x.key = key
  · subst hk
    rw [if_pos (show isFirst es x ∧ x.key = x.key from ⟨hx, rfl⟩)]
    unfold begunM begun
    by_cases q : (first es pre x.key).get x.r.toNat = 0 ∨ x.n < (first es pre x.key).get x.r.toNat
    · rw [if_pos q, if_pos q, Gm.get_put, if_pos rfl]; rfl
    · rw [if_neg q, if_neg q]; exact h x.key
  · rw [if_neg (fun e : isFirst es x ∧ x.key = key => hk e.2)]
    unfold begunM
    split
    · rw [Gm.get_put, if_neg (fun e => hk e.symm)]; exact h key
    · exact h key
theorem firstOk_skip {ms : List (ByteArray × Value)} {es pre : List Ev} (h : FirstOk ms es pre) (x : Ev) (hx : ¬ isFirst es x) : FirstOk ms es (pre ++ [x]) := fun key => by
  rw [first_add, if_neg (fun e => hx e.1)]; exact h key
end Bk

set_option maxHeartbeats 1600000 in
theorem begin_any (b1 : Nat) (m0 : Option Nat) (ms : List (ByteArray × Value)) (c : Ck) (e : Ev) (w : World) (hM : Gm strKey w b1 ms) (hc : (Gm.get ms e.key).getD Ck.zero.val = c.val) (h0 : 0 ≤ e.r) (h5 : e.r < 5) :
    Calls Try.prog 116 #[.agg #[.map m0, .map (some b1)], e.val] w fun x w' => x = .returned (.tuple #[]) ∧ Gm strKey w' b1 (Bk.begunM ms c e) ∧ w.grownBy w' (some b1) := by
  obtain ⟨k, hk, hk5⟩ : ∃ k : Nat, e.r = k ∧ k < 5 := ⟨e.r.toNat, by omega, by omega⟩
  have hk5' : (k : Int) < 5 := by omega
  have HK := Lib.hid hk
  have BG := Lib.hid (show Bk.begunM ms c e = if c.get k = 0 ∨ e.n < c.get k then Gm.put ms e.key (c.set k e.n).val else ms by unfold Bk.begunM; rw [hk]; rfl)
  clear hk h0 h5
  have LK := Lib.hid (fun w' (hu : Lex.Up w w') => show (Instr.lookup 130 (.map (some b1)) (.string e.key) false).run Try.prog w' = .ok c.val w' from (by have := (Gm.look 130 24 Try.underlying130 (zero_clk w') (hM.up hu) e.key false); rw [hc] at this; exact this))
  have ST := Lib.hid (fun w' (hu : Lex.Up w w') v => Gm.store 130 24 Try.underlying130 (hM.up hu) e.key v)
  have MU := Lib.hid (fun w' (hu : Lex.Up w w') => hM.up hu)
  have lb := hM.lt
  clear hM hc
  have S0 := Lib.hid ((Blk.new w #[.map m0, .map (some b1)] 132).alloc (.cells e.cells 39))
  have K0 := Lib.hid (Blk.new (w.alloc (.cells #[.map m0, .map (some b1)] 132)) e.cells 39)
  have U0 := Lib.hid (show Below w.heap.size w ((w.alloc (.cells #[.map m0, .map (some b1)] 132)).alloc (.cells e.cells 39)) from ((Below.refl _ _).alloc (Nat.le_refl _) _).alloc (by simp) _)
  obtain ⟨W, hW⟩ : ∃ W, W = (w.alloc (.cells #[.map m0, .map (some b1)] 132)).alloc (.cells e.cells 39) := ⟨_, rfl⟩
  rw [← hW] at S0 K0 U0
  have z0 : W.heap.size = w.heap.size + 2 := by rw [hW, World.size_alloc, World.size_alloc]
  simp only [World.size_alloc] at K0
  obtain ⟨a0, a1, a2, a3, a4, a5, a6, a7, a8, a9, a10, a11⟩ := K0.out.e12
  have s1 : W.cell? ⟨w.heap.size, 1, none⟩ = some (.map (some b1)) := S0.out.cell rfl
  have lk := LK.out W U0.out
  unfold Ev.cells at hW
  unfold Ev.val at *
  unfold Ck.val at *
  go_enter Try.func116, Try.ntmps116
  go_upto_region 1 with (fail)
  refine wp_named (fun W2 hW2 => ?_)
  obtain rfl : W2 = W := by rw [hW2, hW]
  clear hW hW2
  go_upto_region 2 with (fail)
  refine wp_named (fun W3 hW3 => ?_)
  have S3 := Lib.hid (show Blk W3 w.heap.size #[.map m0, .map (some b1)] 132 by rw [hW3]; exact S0.out.alloc _)
  have K3 := Lib.hid (show Blk W3 (w.heap.size + 1) e.cells 39 by rw [hW3]; exact K0.out.alloc _)
  have C3 := Lib.hid (show Blk W3 (w.heap.size + 2) c.cells 24 by rw [hW3, ← z0]; exact Blk.new W2 c.cells _)
  have U3 := Lib.hid (show Below w.heap.size w W3 by rw [hW3]; exact U0.out.alloc U0.out.size _)
  clear hW3 a0 a1 a2 a3 a4 a5 a6 a7 a8 a9 a10 a11 s1 lk LK S0 K0 U0 z0
  obtain ⟨a0, a1, a2, a3, a4, a5, a6, a7, a8, a9, a10, a11⟩ := K3.out.e12
  rw [HK.out] at a0
  have ck := C3.out.ck5 hk5
  have d0 : decide ((k : Int) < 0) = false := by simp
  have d5 : decide (5 ≤ (k : Int)) = false := by simpa using hk5'
  by_cases q0 : c.get k = 0
  · have e0 : (c.get k == 0) = true := by simpa using q0
    have B2 := Lib.hid (show Bk.begunM ms c e = Gm.put ms e.key (c.set k e.n).val by rw [BG.out, if_pos (.inl q0)]; rfl)
    clear q0 BG
    go_quiet (fail)
    go_upto_region 3 with (fail)
    refine wp_named (fun W4 hW4 => ?_)
    have S4 := Lib.hid (show Blk W4 w.heap.size #[.map m0, .map (some b1)] 132 by rw [hW4]; exact S3.out.dN _)
    have K4 := Lib.hid (show Blk W4 (w.heap.size + 1) e.cells 39 by rw [hW4]; exact K3.out.dN _)
    have C4 := Lib.hid (show Blk W4 (w.heap.size + 2) c.cells 24 by rw [hW4]; exact C3.out.dN _)
    have U4 := Lib.hid (show Below w.heap.size w W4 by rw [hW4]; exact below_dN U3.out _)
    clear hW4 a0 a1 a2 a3 a4 a5 a6 a7 a8 a9 a10 a11 ck S3 K3 C3 U3
    obtain ⟨a0, a1, a2, a3, a4, a5, a6, a7, a8, a9, a10, a11⟩ := K4.out.e12
    rw [HK.out] at a0
    have ck := C4.out.ck5 hk5
    have f4 := C4.out.frozen k
    go_upto_region 4 with (fail)
    refine wp_named (fun W5 hW5 => ?_)
    have S5 := Lib.hid (show Blk W5 w.heap.size #[.map m0, .map (some b1)] 132 by rw [hW5]; exact S4.out.other (by simp) _)
    have K5 := Lib.hid (show Blk W5 (w.heap.size + 1) e.cells 39 by rw [hW5]; exact K4.out.other (by simp) _)
    have C5 := Lib.hid (show Blk W5 (w.heap.size + 2) (c.set k e.n).cells 24 by rw [hW5, ← Ck.cells_set _ _ hk5]; exact C4.out.set k _)
    have U5 := Lib.hid (show Below w.heap.size w W5 by rw [hW5]; exact U4.out.setCell (by simp) _)
    clear hW5 a0 a1 a2 a3 a4 a5 a6 a7 a8 a9 a10 a11 ck f4 S4 K4 C4 U4
    obtain ⟨a0, a1, a2, a3, a4, a5, a6, a7, a8, a9, a10, a11⟩ := K5.out.e12
    obtain ⟨c0, c1, c2, c3, c4⟩ := C5.out.ck
    have s1 : W5.cell? ⟨w.heap.size, 1, none⟩ = some (.map (some b1)) := S5.out.cell rfl
    obtain ⟨w9, hs, hg, hb⟩ := ST.out W5 U5.out (c.set k e.n).val
    have G9 := Lib.hid hg
    have B9 := Lib.hid (by_trans (by_up U5.out (some b1)) hb)
    unfold Ck.val at hs
    change (Instr.mapUpdate _ _ (.string e.key) _).run _ _ = _ at hs
    clear hg hb ST MU
    go_wp2
    go_end0
    exact ⟨rfl, by rw [B2.out]; exact G9.out, B9.out⟩
  · have e0 : (c.get k == 0) = false := by simpa using q0
    by_cases q1 : e.n < c.get k
    · have e1 : decide (e.n < c.get k) = true := by simpa using q1
      have B2 := Lib.hid (show Bk.begunM ms c e = Gm.put ms e.key (c.set k e.n).val by rw [BG.out, if_pos (.inr q1)]; rfl)
      clear q0 q1 BG
      go_quiet (fail)
      go_upto_region 3 with (fail)
      refine wp_named (fun W4 hW4 => ?_)
      have S4 := Lib.hid (show Blk W4 w.heap.size #[.map m0, .map (some b1)] 132 by rw [hW4]; exact S3.out.dN _)
      have K4 := Lib.hid (show Blk W4 (w.heap.size + 1) e.cells 39 by rw [hW4]; exact K3.out.dN _)
      have C4 := Lib.hid (show Blk W4 (w.heap.size + 2) c.cells 24 by rw [hW4]; exact C3.out.dN _)
      have U4 := Lib.hid (show Below w.heap.size w W4 by rw [hW4]; exact below_dN U3.out _)
      clear hW4 a0 a1 a2 a3 a4 a5 a6 a7 a8 a9 a10 a11 ck S3 K3 C3 U3
      obtain ⟨a0, a1, a2, a3, a4, a5, a6, a7, a8, a9, a10, a11⟩ := K4.out.e12
      rw [HK.out] at a0
      have ck := C4.out.ck5 hk5
      have f4 := C4.out.frozen k
      go_upto_region 4 with (fail)
      refine wp_named (fun W5 hW5 => ?_)
      have S5 := Lib.hid (show Blk W5 w.heap.size #[.map m0, .map (some b1)] 132 by rw [hW5]; exact S4.out.other (by simp) _)
      have K5 := Lib.hid (show Blk W5 (w.heap.size + 1) e.cells 39 by rw [hW5]; exact K4.out.other (by simp) _)
      have C5 := Lib.hid (show Blk W5 (w.heap.size + 2) (c.set k e.n).cells 24 by rw [hW5, ← Ck.cells_set _ _ hk5]; exact C4.out.set k _)
      have U5 := Lib.hid (show Below w.heap.size w W5 by rw [hW5]; exact U4.out.setCell (by simp) _)
      clear hW5 a0 a1 a2 a3 a4 a5 a6 a7 a8 a9 a10 a11 ck f4 S4 K4 C4 U4
      obtain ⟨a0, a1, a2, a3, a4, a5, a6, a7, a8, a9, a10, a11⟩ := K5.out.e12
      obtain ⟨c0, c1, c2, c3, c4⟩ := C5.out.ck
      have s1 : W5.cell? ⟨w.heap.size, 1, none⟩ = some (.map (some b1)) := S5.out.cell rfl
      obtain ⟨w9, hs, hg, hb⟩ := ST.out W5 U5.out (c.set k e.n).val
      have G9 := Lib.hid hg
      have B9 := Lib.hid (by_trans (by_up U5.out (some b1)) hb)
      unfold Ck.val at hs
      change (Instr.mapUpdate _ _ (.string e.key) _).run _ _ = _ at hs
      clear hg hb ST MU
      go_wp2
      go_end0
      exact ⟨rfl, by rw [B2.out]; exact G9.out, B9.out⟩
    · have e1 : decide (e.n < c.get k) = false := by simpa using q1
      have B2 := Lib.hid (show Bk.begunM ms c e = ms by rw [BG.out, if_neg (by intro h; rcases h with h | h; exact q0 h; exact q1 h)])
      clear q0 q1 BG
      go_quiet (fail)
      have G4 := Lib.hid (MU.out (W3.drewN nq) (below_dN U3.out nq))
      have U4 := Lib.hid (by_up (below_dN U3.out nq) (some b1))
      go_wp2
      go_end0
      exact ⟨rfl, by rw [B2.out]; exact G4.out, U4.out⟩
end Go.Proofs.Ytolpfchnfhdhkaa
