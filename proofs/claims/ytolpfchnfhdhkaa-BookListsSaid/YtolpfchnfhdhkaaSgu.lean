/-
  The walks of see, begin and sightOf.
-/
import Derived.Test.YtolpfchnfhdhkaaSgt
namespace Go.Proofs.Ytolpfchnfhdhkaa
open Go.RowKit
set_option maxRecDepth 100000
set_option maxRecDepth 100000

theorem by_trans {w w1 w2 : World} {o : Option Nat} (h1 : w.grownBy w1 o) (h2 : w1.grownBy w2 o) : w.grownBy w2 o :=
  ⟨h2.os.trans h1.os, h2.tape.trans h1.tape, h2.output.trans h1.output, Nat.le_trans h1.size h2.size, fun k hk hne => (h2.block k (Nat.lt_of_lt_of_le hk h1.size) hne).trans (h1.block k hk hne)⟩
theorem by_up {w w' : World} (h : Lex.Up w w') (o : Option Nat) : w.grownBy w' o := ⟨h.os, h.tape, h.output, h.size, fun k hk _ => h.block k hk⟩
theorem Blk.grown {w w' : World} {b : Nat} {cs : Array Value} {t : TypeId} {o : Option Nat} (h : Blk w b cs t) (hg : w.grownBy w' o) (hne : some b ≠ o) : Blk w' b cs t := by
  have := hg.block b h.lt hne
  unfold Blk at *; rw [this]; exact h
theorem Blk.ck5 {w : World} {b : Nat} {c : Ck} {t : TypeId} (h : Blk w b c.cells t) {k : Nat} (hk : k < 5) : w.cell? ⟨b, k, none⟩ = some (.int .i64 (c.get k)) := by
  match k, hk with
  | 0, _ | 1, _ | 2, _ | 3, _ | 4, _ => exact h.cell rfl
theorem Ck.cells_set (c : Ck) (k : Nat) (hk : k < 5) (x : Int) : c.cells.setIfInBounds k (.int .i64 x) = (c.set k x).cells := by
  match k, hk with
  | 0, _ | 1, _ | 2, _ | 3, _ | 4, _ => simp [Ck.cells, Ck.set]
theorem Ck.get_set' (c : Ck) (k j : Nat) (x : Int) (h : j < 5) : (c.set k x).get j = if j = k then x else c.get j := by
  match j, h with
  | 0, _ | 1, _ | 2, _ | 3, _ | 4, _ => simp [Ck.set, Ck.get, eq_comm]
theorem Ck.ext5 {a b : Ck} (h : ∀ j, j < 5 → a.get j = b.get j) : a = b := by
  rw [Ck.ext_iff']
  exact ⟨h 0 (by omega), h 1 (by omega), h 2 (by omega), h 3 (by omega), h 4 (by omega)⟩

def SeeRel (a c : Ck) (s q : Nat) (b0 : Nat) (m1 : Option Nat) (t : Tg) (W : World) (v : Value) (wr : World) : Prop :=
  ∃ (k : Nat) (d : Ck), k ≤ 5 ∧ v = .int .i64 k ∧ Hid (∀ j, j < 5 → d.get j = if j < k then max (a.get j) (c.get j) else a.get j) ∧ Hid (Blk wr s #[.map (some b0), .map m1] 132) ∧ Hid (Blk wr q t.cells 145) ∧ Hid (Blk wr (q + 1) d.cells 24) ∧ Hid (Below s W wr)
set_option maxHeartbeats 1600000 in
theorem see_any (b0 : Nat) (m1 : Option Nat) (ms : List (Tg × Value)) (es : List Ev) (e : Ev) (w : World) (hM : Gm tgKey w b0 ms) (hS : Bk.SeenOk ms es) :
    Calls Try.prog 115 #[.agg #[.map (some b0), .map m1], e.val] w fun x w' => x = .returned (.tuple #[]) ∧ Gm tgKey w' b0 (Gm.put ms (Tg.of e.k e) (Ck.join (Bk.seen es (Tg.of e.k e)) e.c).val) ∧ w.grownBy w' (some b0) := by
  have CT := Lib.hid (fun w => thingOf_any e.k e w)
  have LK := Lib.hid (fun w' (hu : Lex.Up w w') => show (Instr.lookup 129 (.map (some b0)) (Tg.of e.k e).val false).run Try.prog w' = .ok (Bk.seen es (Tg.of e.k e)).val w' from (by have := (Gm.look 129 24 Try.underlying129 (zero_clk w') (hM.up hu) (Tg.of e.k e) false); rw [hS] at this; exact this))
  have ST := Lib.hid (fun w' (hu : Lex.Up w w') v => Gm.store 129 24 Try.underlying129 (hM.up hu) (Tg.of e.k e) v)
  have lb := hM.lt
  generalize Bk.seen es (Tg.of e.k e) = a at *
  generalize Tg.of e.k e = t at *
  clear hM hS
  have S0 := Lib.hid ((Blk.new w #[.map (some b0), .map m1] 132).alloc (.cells e.cells 39))
  have K0 := Lib.hid (Blk.new (w.alloc (.cells #[.map (some b0), .map m1] 132)) e.cells 39)
  have U0 := Lib.hid (show Below w.heap.size w ((w.alloc (.cells #[.map (some b0), .map m1] 132)).alloc (.cells e.cells 39)) from ((Below.refl _ _).alloc (Nat.le_refl _) _).alloc (by simp) _)
  obtain ⟨W, hW⟩ : ∃ W, W = (w.alloc (.cells #[.map (some b0), .map m1] 132)).alloc (.cells e.cells 39) := ⟨_, rfl⟩
  rw [← hW] at S0 K0 U0
  simp only [World.size_alloc] at K0
  obtain ⟨a0, a1, a2, a3, a4, a5, a6, a7, a8, a9, a10, a11⟩ := K0.out.e12
  have HX := Lib.hid (show ∀ j, j < 5 → ∀ w, (Instr.index 24 (.agg #[.int .i64 e.c.c0, .int .i64 e.c.c1, .int .i64 e.c.c2, .int .i64 e.c.c3, .int .i64 e.c.c4]) (.int .i64 (j : Nat))).run Try.prog w = .ok (.int .i64 (e.c.get j)) w from fun j hj w => by
    match j, hj with
    | 0, _ | 1, _ | 2, _ | 3, _ | 4, _ => go_simp; rfl)
  unfold Ev.cells at hW
  unfold Ev.val at *
  unfold Ck.val at *
  unfold Tg.val at *
  go_enter Try.func115, Try.ntmps115
  go_upto_region 1 with (fail)
  refine wp_named (fun W2 hW2 => ?_)
  obtain rfl : W2 = W := by rw [hW2, hW]
  clear hW hW2
  go_wp2_with fail
  refine (CT.out _).mono ?_
  rintro x w1 ⟨rfl, hb⟩
  have S1 := Lib.hid (S0.out.up hb)
  have K1 := Lib.hid (K0.out.up hb)
  have U1 := Lib.hid (U0.out.trans (hb.mono U0.out.size))
  clear hb a0 a1 a2 a3 a4 a5 a6 a7 a8 a9 a10 a11 S0 K0 U0 CT
  go_upto_region 2 with (fail)
  refine wp_named (fun W2 hW2 => ?_)
  have S2 := Lib.hid (show Blk W2 w.heap.size #[.map (some b0), .map m1] 132 by rw [hW2]; exact S1.out.alloc _)
  have K2 := Lib.hid (show Blk W2 (w.heap.size + 1) e.cells 39 by rw [hW2]; exact K1.out.alloc _)
  have T2 := Lib.hid (show Blk W2 w1.heap.size t.cells 145 by rw [hW2]; exact Blk.new w1 t.cells _)
  have U2 := Lib.hid (show Below w.heap.size w W2 by rw [hW2]; exact U1.out.alloc U1.out.size _)
  have z2 : W2.heap.size = w1.heap.size + 1 := by rw [hW2]; simp
  have k1 := K1.out.lt
  clear hW2 S1 K1
  have s0 : W2.cell? ⟨w.heap.size, 0, none⟩ = some (.map (some b0)) := S2.out.cell rfl
  have t0 : W2.cell? ⟨w1.heap.size, 0, none⟩ = some (.int .i64 t.k) := T2.out.cell rfl
  have t1 : W2.cell? ⟨w1.heap.size, 1, none⟩ = some (.string t.key) := T2.out.cell rfl
  have t2 : W2.cell? ⟨w1.heap.size, 2, none⟩ = some (.int .i64 t.l) := T2.out.cell rfl
  have t3 : W2.cell? ⟨w1.heap.size, 3, none⟩ = some (.string t.v) := T2.out.cell rfl
  have lk := LK.out W2 U2.out
  go_upto_region 3 with (fail)
  refine wp_named (fun W3 hW3 => ?_)
  have S3 := Lib.hid (show Blk W3 w.heap.size #[.map (some b0), .map m1] 132 by rw [hW3]; exact S2.out.alloc _)
  have K3 := Lib.hid (show Blk W3 (w.heap.size + 1) e.cells 39 by rw [hW3]; exact K2.out.alloc _)
  have T3 := Lib.hid (show Blk W3 w1.heap.size t.cells 145 by rw [hW3]; exact T2.out.alloc _)
  have C3 := Lib.hid (show Blk W3 W2.heap.size a.cells 24 by rw [hW3]; exact Blk.new W2 a.cells _)
  have U3 := Lib.hid (show Below w.heap.size w W3 by rw [hW3]; exact U2.out.alloc U2.out.size _)
  rw [z2] at C3
  clear hW3 S2 K2 T2 U2 s0 t0 t1 t2 t3 lk LK
  obtain ⟨a0, a1, a2, a3, a4, a5, a6, a7, a8, a9, a10, a11⟩ := K3.out.e12
  go_wp2
  clear a0 a1 a2 a3 a4 a5 a6 a7 a8 a9 a10 a11
  go_loopw [18] (fun v wr => SeeRel a e.c w.heap.size w1.heap.size b0 m1 t w v wr) (fun v _ => 5 - (intOf v).toNat)
  case atStart => exact ⟨0, a, by omega, rfl, Lib.hid (fun j hj => by simp), S3, T3, C3, U3⟩
  case round =>
    obtain ⟨k, d, hk, rfl, HD, SS, TT, CC, UU⟩ := hrel
    clear S3 T3 C3 U3 K3
    have ltC := CC.out.lt
    by_cases h5 : k < 5
    · have h5' : (k : Int) < 5 := by omega
      have hx := HX.out k h5
      have ck := CC.out.ck5 h5
      have HV := Lib.hid (show d.get k = a.get k by have := HD.out k h5; simpa using this)
      have f5 := CC.out.frozen k
      generalize hy : e.c.get k = y at hx
      have HYV := Lib.hid hy
      clear hy HX
      go_wp2
      go_roundw
      case rel => exact ⟨k + 1, d.set k (if d.get k < y then y else d.get k), by omega, by go_num, Lib.hid (fun j hj => by
          rw [Ck.get_set' _ _ _ _ hj]
          by_cases e1 : j = k
          · subst e1
            rw [if_pos rfl, if_pos (Nat.lt_succ_self j), ← HV.out, HYV.out, Int.max_def]
            split <;> split <;> omega
          · rw [if_neg e1, HD.out j hj]
            by_cases e2 : j < k
            · rw [if_pos e2, if_pos (by omega)]
            · rw [if_neg e2, if_neg (by omega)]), SS.out.other (by simp; omega) _, TT.out.other (by simp) _, Lib.hid (by rw [← Ck.cells_set _ _ h5]; exact CC.out.set k _), UU.out.setCell (by simp; omega) _⟩
      case measure => simp [intOf]; omega
    · obtain rfl : k = 5 := by omega
      have HJ : Ck.join a e.c = d := Ck.ext5 (fun j hj => by rw [HD.out j hj, if_pos hj, Ck.get_join])
      subst HJ
      have s0 : wr.cell? ⟨w.heap.size, 0, none⟩ = some (.map (some b0)) := SS.out.cell rfl
      have t0 : wr.cell? ⟨w1.heap.size, 0, none⟩ = some (.int .i64 t.k) := TT.out.cell rfl
      have t1 : wr.cell? ⟨w1.heap.size, 1, none⟩ = some (.string t.key) := TT.out.cell rfl
      have t2 : wr.cell? ⟨w1.heap.size, 2, none⟩ = some (.int .i64 t.l) := TT.out.cell rfl
      have t3 : wr.cell? ⟨w1.heap.size, 3, none⟩ = some (.string t.v) := TT.out.cell rfl
      obtain ⟨c0, c1, c2, c3, c4⟩ := CC.out.ck
      obtain ⟨w9, hs, hg, hb⟩ := ST.out wr UU.out (Ck.join a e.c).val
      have G9 := Lib.hid hg
      have B9 := Lib.hid (by_trans (by_up UU.out (some b0)) hb)
      unfold Ck.val at hs
      change (Instr.mapUpdate _ _ t.val _).run _ _ = _ at hs
      unfold Tg.val at hs
      clear hg hb ST HX HD
      go_wp2
      go_end0
      exact ⟨rfl, G9.out, B9.out⟩
end Go.Proofs.Ytolpfchnfhdhkaa
