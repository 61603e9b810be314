/-
  The walk of set.
-/
import Derived.Test.YtolpfchnfhdhkaaRwu
namespace Go.Proofs.Ytolpfchnfhdhkaa
open Go.RowKit
set_option maxRecDepth 100000
set_option maxRecDepth 100000

theorem ModBy.blk {w w' : World} {own : Nat → Option (Nat × Nat)} {p b : Nat} {cs : Array Value} {t : TypeId} (h : ModBy w w' own p) (hb : Blk w b cs t) (hne : own b = none) : Blk w' b cs t := by
  have := h.block b hb.lt (fun i => by rw [hne]; simp)
  unfold Blk at *; rw [this]; exact hb
theorem DrPost.wide {w W w' : World} {B p : Nat} {own : Nat → Option (Nat × Nat)} {D : Nat → Nat × List Value} (h : DrPost W w' B own p D) (hu : Lex.Up w W) : DrPost w w' B own p D := by
  obtain ⟨⟨own', vs', h1, h2⟩, h3⟩ := h
  exact ⟨⟨own', vs', h1, h2.wide hu.size (Nat.le_refl _)⟩, (ModBy.of_up hu own p).trans h3 (ownExt_refl _ _ _ _)⟩

theorem Sl.keptR {w w' : World} {sz n cap : Nat} {A : Option Addr} {cs : List Value} {o : Option Nat} (h : Sl w sz A n cap cs) (hg : w.grownBy w' o) (hne : ∀ a, A = some a → some a.block ≠ o) : Sl w' sz A n cap cs := by
  obtain ⟨hl, hc, hm, hcell⟩ := h
  refine ⟨hl, hc, hm, fun h0 => ?_⟩
  obtain ⟨b, off, e, hbl, hcl⟩ := hcell h0
  refine ⟨b, off, e, Nat.lt_of_lt_of_le hbl hg.size, fun j u hu => ?_⟩
  rw [World.cell?_of_block (hg.block b hbl (hne _ e))]
  exact hcl j u hu
theorem exec_append {P : Program} {w w' : World} {o : Oper} {ev : Operand → Value} {v : Value} (s x : Operand) (t ty : TypeId)
    (ho : o.op = .call { callee := .builtin .append, args := #[s, x], argTypes := #[t, t] }) (ht : o.type = ty) (u y : Value) (hs : ev s = u) (hx : ev x = y)
    (hrun : (Builtin.append_ #[t, t] ty #[u, y]).run P w = .ok v w') : (execOp ev o).run P w = .ok (.value v) w' := by
  unfold execOp
  simp only [ho, ht, resolve, invoke, builtin, Sem.run_bind, Sem.run_pure, Result.andThen_ok, List.map_toArray, List.map_cons, List.map_nil, hs, hx, hrun]
/-- A new slice of one element, apart from the row. -/
def MkF (row : Value) (sz : Nat) (ys : List Value) (v : Value) (w : World) : Prop := ∃ b, v = .slice (some ⟨b, 0, none⟩) 1 1 ∧ Sl w sz (some ⟨b, 0, none⟩) 1 1 ys ∧ row.ownBlock ≠ some b
theorem mkF_up {row v : Value} {sz n : Nat} {e : TypeId} {ys zs : List Value} {w w' : World} (h : RowUp row n sz e zs w w') (hf : MkF row sz ys v w) : MkF row sz ys v w' := by
  obtain ⟨b, e1, hs, hne⟩ := hf
  exact ⟨b, e1, hs.keptR h.1 (fun a ha => by cases ha; exact fun e => hne e.symm), hne⟩
set_option maxHeartbeats 12800000 in
theorem dset_any (B p k : Nat) (own : Nat → Option (Nat × Nat)) (vs : Nat → Value) (D : Nat → Nat × List Value) (e : Ev) (w : World) (h : DrW w B own p vs D) (hB : B ≤ w.heap.size) (hfr : ∀ g, w.heap.size ≤ g → own g = none) (hn : ∀ j, j < 6 → (D j).1 ≤ 1000000) (hk : k < 2) (hl : e.l = k) :
    Calls Try.prog 97 #[.pointer (some ⟨p, 0, none⟩), e.val] w fun x w' => x = .returned (.tuple #[]) ∧ DrPost w w' B own p (Dr.addAt (Dr.addAt D k [.string e.v]) (2 + k) [.int .i64 e.h, .int .i64 e.r]) := by
  have hk' : (k : Int) < 2 := by omega
  have h06 : k < 6 := by omega
  have h26 : 2 + k < 6 := by omega
  have t0 : Dr.ty k = 9 := by unfold Dr.ty; rw [if_neg (by omega)]
  have z0 : Dr.sz k = 1 := by unfold Dr.sz; rw [if_neg (by omega)]
  have t2 : Dr.ty (2 + k) = 82 := by unfold Dr.ty; rw [if_pos (by omega)]
  have z2 : Dr.sz (2 + k) = 2 := by unfold Dr.sz; rw [if_pos (by omega)]
  have HL := Lib.hid hl
  have LB := Lib.hid (fun w => show Calls Try.prog 119 #[.int .i64 k] w fun x w' => x = .returned (.bool true) ∧ w' = w from by
    have := isLabel_any k w
    rwa [show Dr.lab k = true by unfold Dr.lab; simp; omega] at this)
  clear hl
  have K0 := Lib.hid (Blk.new w e.cells 39)
  have U0 := Lib.hid (show Lex.Up w (w.alloc (.cells e.cells 39)) from (Below.refl _ _).alloc (Nat.le_refl _) _)
  have lte : w.heap.size < (w.alloc (.cells e.cells 39)).heap.size := by simp
  have HO := Lib.hid (hfr w.heap.size (Nat.le_refl _))
  have H0 : DrW (w.alloc (.cells e.cells 39)) B own p vs D := h.up U0.out
  have HM := Lib.hid (show (Dr.addAt D k [.string e.v] (2 + k)).1 ≤ 1000000 by unfold Dr.addAt Dr.upd; rw [if_neg (by omega)]; exact hn _ h26)
  have HN := Lib.hid (hn k h06)
  have RL := Lib.hid (fun g hg => rw_lt (h.r k h06) (g := g) hg)
  obtain ⟨W, hW⟩ : ∃ W, W = w.alloc (.cells e.cells 39) := ⟨_, rfl⟩
  rw [← hW] at K0 U0 H0 lte
  have R0 := Lib.hid (show ∀ w5, Lex.Up W w5 → w5.ownsRow B 9 1 (vs k) (D k).1 (D k).2 from fun w5 hu => by have := own_up (H0.r _ h06).1 hu; rwa [t0, z0] at this)
  have DU := Lib.hid (fun w5 (hu : Lex.Up W w5) => H0.up hu)
  have DP := Lib.hid (fun w5 w6 v' n' xs' (hu : Lex.Up W w5) (hown : w6.ownsRow B 9 1 v' n' xs') hg hsep => drpost_app (H0.up hu) hu (w6 := w6) (v' := v') h06 (n' := n') (xs' := xs') (by rw [t0, z0]; exact hown) hg hsep)
  have d0 := drw_cell H0 h06
  have ltp : p < W.heap.size := H0.k.lt
  have ES := Lib.hid elemStr
  have hBW : B ≤ W.heap.size := Nat.le_trans hB U0.out.size
  obtain ⟨a0, a1, a2, a3, a4, a5, a6, a7, a8, a9, a10, a11⟩ := K0.out.e12
  rw [HL.out] at a10
  unfold Ev.cells at hW
  unfold Ev.val at *
  clear h hn hfr t0 z0 H0 a1 a2 a3 a4 a5 a6 a8 a9
  go_enter Try.func97, Try.ntmps97
  go_upto_region 1 with (fail)
  refine wp_named (fun W2 hW2 => ?_)
  obtain rfl : W2 = W := by rw [hW2, hW]
  clear hW hW2
  go_wp2_with fail
  refine (LB.out _).mono ?_
  rintro x w' ⟨rfl, rfl⟩
  go_upto_region 2 with (fail)
  go_cut [] (fun wx => Hid (DrPost w' wx B own p (Dr.addAt D k [.string e.v])))
  case first =>
    letI : LexX.Rel := rowRel (vs k) (D k).1 1 9 [.string e.v]
    have ltr := Lib.hid (show ∀ g, (vs k).ownBlock = some g → g < w'.heap.size from fun g hg => by have := RL.out g hg; omega)
    have KE := Lib.hid (show ∀ w5, LexX.Up w' w5 → Blk w5 w.heap.size e.cells 39 from fun w5 hC => K0.out.grown hC.1 (fun e => by have := RL.out _ e.symm; omega))
    have KP := Lib.hid (show ∀ w5, LexX.Up w' w5 → w5.cell? ⟨p, k, none⟩ = some (vs k) from fun w5 hC => blk_cell6 (drw_apart (DU.out _ (Lex.Up.refl w')) h06 hC.1) h06)
    have HR := Lib.hid (R0.out _ (Lex.Up.refl w'))
    have HX := Lib.hid (show (D k).2.length = (D k).1 * 1 from HR.out.1)
    refine LexX.wp_region_lex_tail 17 (by kernel_rfl) (by kernel_rfl) (by kernel_rfl) (by rfl) ?_
    simp only [List.take_succ_cons, List.take_zero, List.drop_succ_cons, List.drop_zero]
    repeat (first | (refine LexX.lex_skip (by rfl) (by rfl) (by rfl) ?_; simp only [Act.put, List.setIfInBounds_toArray, List.set_cons_zero, List.set_cons_succ]) | (refine LexX.lex_pure (c := ?_) (by rfl) (by rfl) (fun w' hC => ?_) (by rfl) ?_; rotate_left 1; (have b10 : w'.cell? ⟨w.heap.size, 10, none⟩ = some (.int .i64 k) := (by rw [← HL.out]; exact (KE.out w' hC).cell rfl); have b11 : w'.cell? ⟨w.heap.size, 11, none⟩ = some (.string e.v) := (KE.out w' hC).cell rfl; have p0 := KP.out w' hC; go_simp; rfl); simp only [Act.put, List.setIfInBounds_toArray, List.set_cons_zero, List.set_cons_succ]))
    refine LexX.lex_make (v := fun w => .slice (some ⟨w.heap.size, 0, none⟩) 1 1) (f := fun w => w.alloc (.cells #[.string e.v] 9)) 19 (MkF (vs k) 1 [.string e.v]) (by rfl) (by rfl) (by rfl) (fun v w1 w2 hu hf => mkF_up hu hf) (fun w' hC => ?_) (fun w5 hC => ⟨rowup_of_up ((Below.refl _ _).alloc (Nat.le_refl _) _), w5.heap.size, rfl, Sl.of_blk (n := 1) (sz := 1) (Blk.new w5 #[.string e.v] 9) rfl (by omega), fun e => by have := ltr.out _ e; have := hC.1.size; omega⟩) (by rfl) ?_
    · clear hC; go_simp
    refine LexX.lex_hasof 20 (AppF B 9 1 (D k).1 (vs k) w'.heap.size (D k).2 [.string e.v]) (by rfl) (by rfl) (fun v w1 w2 hu hf => appF_up HX.out rfl hu hf) (fun u => by rfl) (fun w5 hC v hv => ?_) (by rfl) ?_
    · obtain ⟨b, rfl, hs, hne⟩ := hv
      obtain ⟨v6, w6, hr, q1, q2⟩ := append_row ES.out w5 48 B w'.heap.size (vs k) (D k).1 (D k).2 (rowup_own hC HR.out) b 1 [.string e.v] rfl hs (by simp [Value.oneCell']) (by have := HN.out; simp only [maxLen]; omega) (by have := HN.out; omega) (Nat.le_trans hBW hC.1.size) hC.1.size
      rw [exec_append (.tmp 16) (.tmp 19) 48 48 rfl rfl (vs k) _ (by rfl) (by rfl) hr]
      exact ⟨q1, q2⟩
    repeat (first | (refine LexX.lex_skip (by rfl) (by rfl) (by rfl) ?_; simp only [Act.put, List.setIfInBounds_toArray, List.set_cons_zero, List.set_cons_succ]) | (refine LexX.lex_pure (c := ?_) (by rfl) (by rfl) (fun w' hC => ?_) (by rfl) ?_; rotate_left 1; (have b10 : w'.cell? ⟨w.heap.size, 10, none⟩ = some (.int .i64 k) := (by rw [← HL.out]; exact (KE.out w' hC).cell rfl); go_simp; rfl); simp only [Act.put, List.setIfInBounds_toArray, List.set_cons_zero, List.set_cons_succ]))
    refine LexX.lex_nil (fun w7 hC => ?_)
    simp only [LexX.fill]
    rintro v6 ⟨hown6, hs6⟩ v5 ⟨b5, rfl, -, -⟩
    obtain ⟨A6, cap6, rfl, -⟩ := Sl.of_own hown6
    have P6 := Lib.hid (DP.out w' w7 _ _ _ (Lex.Up.refl w') hown6 hC.1 hs6)
    have B6 := Lib.hid (drw_apart (DU.out _ (Lex.Up.refl w')) h06 hC.1)
    have f6 := B6.out.frozen k
    have c6 := blk_cell6 B6.out h06
    clear hown6 hs6 hC
    change wpList _ _ _ _ _ w7
    go_wp2_with fail
    go_meet
    exact P6
  case rest =>
  obtain ⟨⟨own1, vs1, hd, hx⟩, hm⟩ := hcut.out
  have K1 := Lib.hid (hm.blk K0.out HO.out)
  have ho1 : own1 w.heap.size = none := by rw [hx.old lte]; exact HO.out
  have RL1 := Lib.hid (show (vs1 (2 + k)).ownBlock ≠ some w.heap.size from fun e => by have := (hd.r _ h26).2 _ e; rw [ho1] at this; cases this)
  have RB1 := Lib.hid (show ∀ g, (vs1 (2 + k)).ownBlock = some g → g < wc.heap.size from fun g hg => rw_lt (hd.r _ h26) hg)
  have R1 := Lib.hid (show wc.ownsRow B 82 2 (vs1 (2 + k)) (Dr.addAt D k [.string e.v] (2 + k)).1 (Dr.addAt D k [.string e.v] (2 + k)).2 from by have := (hd.r _ h26).1; rwa [t2, z2] at this)
  have DP1 := Lib.hid (show ∀ w6 v' n' xs' (hown : w6.ownsRow B 82 2 v' n' xs') (hg : wc.grownBy w6 (vs1 (2 + k)).ownBlock) (hsep : ∀ g, v'.ownBlock = some g → (vs1 (2 + k)).ownBlock = some g ∨ wc.heap.size ≤ g), DrPost w (w6.setCell ⟨p, 2 + k, none⟩ v') B own p (Dr.upd (Dr.addAt D k [.string e.v]) (2 + k) (n', xs')) from fun w6 v' n' xs' hown hg hsep => by
    obtain ⟨⟨o2, u2, q1, q2⟩, q3⟩ := drpost_app hd (Lex.Up.refl wc) (w6 := w6) (v' := v') h26 (n' := n') (xs' := xs') (by rw [t2, z2]; exact hown) hg hsep
    exact DrPost.wide ⟨⟨o2, u2, q1, hx.trans q2 hm.size q3.size⟩, hm.trans q3 hx⟩ U0.out)
  have BA1 := Lib.hid (show ∀ w5, wc.grownBy w5 (vs1 (2 + k)).ownBlock → Blk w5 p #[vs1 0, vs1 1, vs1 2, vs1 3, vs1 4, vs1 5] 102 from fun w5 hg => drw_apart hd h26 hg)
  have hB1 : B ≤ wc.heap.size := Nat.le_trans hBW hm.size
  clear hcut hd hx hm ho1 t2 z2 d0 a0 a7 a10 a11 ltp lte ES R0 DU DP RL K0
  have ES := Lib.hid elemStp
  have PZ := Lib.hid (show ∀ w9 x, DrPost w w9 B own p x → x = Dr.addAt (Dr.addAt D k [.string e.v]) (2 + k) [.int .i64 e.h, .int .i64 e.r] → DrPost w w9 B own p (Dr.addAt (Dr.addAt D k [.string e.v]) (2 + k) [.int .i64 e.h, .int .i64 e.r]) from fun w9 x h e => e ▸ h)
  have HX := Lib.hid (show (Dr.addAt D k [.string e.v] (2 + k)).2.length = (Dr.addAt D k [.string e.v] (2 + k)).1 * 2 from R1.out.1)
  go_upto_region 3 with (fail)
  letI : LexX.Rel := rowRel (vs1 (2 + k)) (Dr.addAt D k [.string e.v] (2 + k)).1 2 82 [.int .i64 e.h, .int .i64 e.r]
  have KE := Lib.hid (show ∀ w5, LexX.Up wc w5 → Blk w5 w.heap.size e.cells 39 from fun w5 hC => K1.out.grown hC.1 (fun e => RL1.out e.symm))
  have KP := Lib.hid (show ∀ w5, LexX.Up wc w5 → w5.cell? ⟨p, 2 + k, none⟩ = some (vs1 (2 + k)) from fun w5 hC => blk_cell6 (BA1.out w5 hC.1) h26)
  refine LexX.wp_region_lex_tail 20 (by kernel_rfl) (by kernel_rfl) (by kernel_rfl) (by rfl) ?_
  simp only [List.take_succ_cons, List.take_zero, List.drop_succ_cons, List.drop_zero]
  repeat (first | (refine LexX.lex_skip (by rfl) (by rfl) (by rfl) ?_; simp only [Act.put, List.setIfInBounds_toArray, List.set_cons_zero, List.set_cons_succ]) | (refine LexX.lex_pure (c := ?_) (by rfl) (by rfl) (fun w' hC => ?_) (by rfl) ?_; rotate_left 1; (have b10 : w'.cell? ⟨w.heap.size, 10, none⟩ = some (.int .i64 k) := (by rw [← HL.out]; exact (KE.out w' hC).cell rfl); have b7 : w'.cell? ⟨w.heap.size, 7, none⟩ = some (.int .i64 e.h) := (KE.out w' hC).cell rfl; have b0 : w'.cell? ⟨w.heap.size, 0, none⟩ = some (.int .i64 e.r) := (KE.out w' hC).cell rfl; have p0 := KP.out w' hC; go_simp; rfl); simp only [Act.put, List.setIfInBounds_toArray, List.set_cons_zero, List.set_cons_succ]))
  refine LexX.lex_make (v := fun w => .slice (some ⟨w.heap.size, 0, none⟩) 1 1) (f := fun w => w.alloc (.cells #[.int .i64 e.h, .int .i64 e.r] 82)) 39 (MkF (vs1 (2 + k)) 2 [.int .i64 e.h, .int .i64 e.r]) (by rfl) (by rfl) (by rfl) (fun v w1 w2 hu hf => mkF_up hu hf) (fun w' hC => ?_) (fun w5 hC => ⟨rowup_of_up ((Below.refl _ _).alloc (Nat.le_refl _) _), w5.heap.size, rfl, Sl.of_blk (n := 1) (sz := 2) (Blk.new w5 #[.int .i64 e.h, .int .i64 e.r] 82) rfl (by omega), fun e => by have := RB1.out _ e; have := hC.1.size; omega⟩) (by rfl) ?_
  · clear hC; go_simp
  refine LexX.lex_hasof 40 (AppF B 82 2 (Dr.addAt D k [.string e.v] (2 + k)).1 (vs1 (2 + k)) wc.heap.size (Dr.addAt D k [.string e.v] (2 + k)).2 [.int .i64 e.h, .int .i64 e.r]) (by rfl) (by rfl) (fun v w1 w2 hu hf => appF_up HX.out rfl hu hf) (fun u => by rfl) (fun w5 hC v hv => ?_) (by rfl) ?_
  · obtain ⟨b, rfl, hs, hne⟩ := hv
    obtain ⟨v6, w6, hr, q1, q2⟩ := append_row ES.out w5 99 B wc.heap.size (vs1 (2 + k)) (Dr.addAt D k [.string e.v] (2 + k)).1 (Dr.addAt D k [.string e.v] (2 + k)).2 (rowup_own hC R1.out) b 1 [.int .i64 e.h, .int .i64 e.r] rfl hs (by simp [Value.oneCell']) (by have := HM.out; simp only [maxLen]; omega) (by have := HM.out; omega) (Nat.le_trans hB1 hC.1.size) hC.1.size
    rw [exec_append (.tmp 33) (.tmp 39) 99 99 rfl rfl (vs1 (2 + k)) _ (by rfl) (by rfl) hr]
    exact ⟨q1, q2⟩
  repeat (first | (refine LexX.lex_skip (by rfl) (by rfl) (by rfl) ?_; simp only [Act.put, List.setIfInBounds_toArray, List.set_cons_zero, List.set_cons_succ]) | (refine LexX.lex_pure (c := ?_) (by rfl) (by rfl) (fun w' hC => ?_) (by rfl) ?_; rotate_left 1; (have b10 : w'.cell? ⟨w.heap.size, 10, none⟩ = some (.int .i64 k) := (by rw [← HL.out]; exact (KE.out w' hC).cell rfl); go_simp; rfl); simp only [Act.put, List.setIfInBounds_toArray, List.set_cons_zero, List.set_cons_succ]))
  refine LexX.lex_nil (fun w7 hC => ?_)
  simp only [LexX.fill]
  rintro v6 ⟨hown6, hs6⟩ v5 ⟨b5, rfl, -, -⟩
  obtain ⟨A6, cap6, rfl, -⟩ := Sl.of_own hown6
  have P6 := Lib.hid (PZ.out _ _ (DP1.out w7 _ _ _ hown6 hC.1 hs6) rfl)
  have B6 := Lib.hid (BA1.out w7 hC.1)
  have f6 := B6.out.frozen (2 + k)
  have c6 := blk_cell6 B6.out h26
  clear hown6 hs6 hC
  change wpList _ _ _ _ _ w7
  go_wp2
  go_end0
  exact ⟨rfl, P6.out⟩
end Go.Proofs.Ytolpfchnfhdhkaa
