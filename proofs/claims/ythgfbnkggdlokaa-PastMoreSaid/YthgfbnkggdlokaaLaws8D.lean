/-
  The walk of PastMore.
-/
import Derived.Test.YthgfbnkggdlokaaLaws8A
import Derived.Test.YthgfbnkggdlokaaPstX
import Derived.Test.YthgfbnkggdlokaaLexA
namespace Go.Proofs.Ythgfbnkggdlokaa
open Go.RowKit
set_option maxRecDepth 100000
set_option maxRecDepth 100000

theorem Blk.cka {w : World} {b : Nat} {c : Ck} {t : TypeId} (h : Blk w b c.cells t) {j : Nat} (hj : j < 5) : w.cell? ⟨b, j, none⟩ = some (.int .i64 (c.get j)) := by
  match j, hj with
  | 0, _ | 1, _ | 2, _ | 3, _ | 4, _ => exact h.cell rfl
theorem ckset_cells (c : Ck) (k : Nat) (hk : k < 5) (x : Int) : c.cells.setIfInBounds k (.int .i64 x) = (c.set k x).cells := by
  match k, hk with
  | 0, _ | 1, _ | 2, _ | 3, _ | 4, _ => simp [Ck.cells, Ck.set]
def st12 (w : World) (b : Nat) (e : Ev) : World :=
  (((((((((((w.setCell ⟨b, 0, none⟩ (.int .i64 e.r)).setCell ⟨b, 1, none⟩ (.int .i64 e.n)).setCell ⟨b, 2, none⟩ (.int .i64 e.c.c0)).setCell ⟨b, 3, none⟩ (.int .i64 e.c.c1)).setCell ⟨b, 4, none⟩ (.int .i64 e.c.c2)).setCell ⟨b, 5, none⟩ (.int .i64 e.c.c3)).setCell ⟨b, 6, none⟩ (.int .i64 e.c.c4)).setCell ⟨b, 7, none⟩ (.int .i64 e.h)).setCell ⟨b, 8, none⟩ (.int .i64 e.k)).setCell ⟨b, 9, none⟩ (.string e.key)).setCell ⟨b, 10, none⟩ (.int .i64 e.l)).setCell ⟨b, 11, none⟩ (.string e.v)
theorem st12_blk {w : World} {b : Nat} {e0 : Ev} {t : TypeId} (h : Blk w b e0.cells t) (e : Ev) : Blk (st12 w b e) b e.cells t := by
  have := (((((((((((h.set 0 (.int .i64 e.r)).set 1 (.int .i64 e.n)).set 2 (.int .i64 e.c.c0)).set 3 (.int .i64 e.c.c1)).set 4 (.int .i64 e.c.c2)).set 5 (.int .i64 e.c.c3)).set 6 (.int .i64 e.c.c4)).set 7 (.int .i64 e.h)).set 8 (.int .i64 e.k)).set 9 (.string e.key)).set 10 (.int .i64 e.l)).set 11 (.string e.v)
  simp only [Ev.cells, List.setIfInBounds_toArray, List.set_cons_zero, List.set_cons_succ] at this
  exact this
theorem st12_below {w0 w : World} {B b : Nat} (h : Below B w0 w) (hb : B ≤ b) (e : Ev) : Below B w0 (st12 w b e) := by
  unfold st12
  iterate 12 refine Below.setCell ?_ hb _
  exact h
theorem st12_other {w : World} {b c : Nat} {cs : Array Value} {t : TypeId} (h : Blk w c cs t) (hne : c ≠ b) (e : Ev) : Blk (st12 w b e) c cs t := by
  unfold st12
  iterate 12 refine Blk.other ?_ hne _
  exact h
/-- A pointer to a new event. -/
def ptrFact (e : Ev) (B : Nat) : Lex.Fact := fun v w => ∃ b, v = .pointer (some ⟨b, 0, none⟩) ∧ B ≤ b ∧ Blk w b e.cells 51
theorem ptrFact_up (e : Ev) (B : Nat) : Lex.UpC (ptrFact e B) := fun v w w' hu h => by
  obtain ⟨b, rfl, hB, hb⟩ := h
  exact ⟨b, rfl, hB, hb.up hu⟩
theorem right_no (es : List Ev) (A : Option Addr) (n cap : Nat) (w : World) (h : EvSl w A n cap es) (hr : ¬ Pst.RightP es) :
    Calls Try.prog 22 #[.slice A n cap] w fun x w' => x = .returned (.bool false) ∧ Lex.Up w w' :=
  (right_any es A n cap w h).mono fun e w' ⟨h1, h3⟩ => ⟨by
    have : Pst.right es = false := by
      rw [← Bool.not_eq_true, Pst.right_iff]; exact hr
    rw [h1, this], h3⟩
theorem clock_is (es : List Ev) (A : Option Addr) (n cap : Nat) (w : World) (h : EvSl w A n cap es) (hn : n ≤ 1000000) (d : Ck) (hd : ∀ x, Pst.Whole (Pst.tally es) x → x = d) :
    Calls Try.prog 28 #[.slice A n cap] w fun x w' => x = .returned d.val ∧ Lex.Up w w' :=
  (clock_any es A n cap w h hn).mono fun e w' ⟨⟨c, h1, h2⟩, h3⟩ => ⟨by rw [h1, hd c h2], h3⟩
def SumRel (c : Ck) (W : World) (v13 v14 : Value) (wr : World) : Prop := ∃ i : Nat, i ≤ 5 ∧ v13 = .int .i64 (Pst.sumTo c i) ∧ v14 = .int .i64 i ∧ Hid (wr = W)


set_option maxHeartbeats 8000000 in
theorem law_more (A : Option Addr) (n cap : Nat) (cs : List Ch) (r : Nat) (w : World) (hs : ChSl w A n cap cs) (hok : ∀ c ∈ cs, Ch.Ok c) (hr : r < 256) :
    Calls Try.prog 9 #[.slice A n cap, .int .u8 r] w fun e w' => e = .returned (.bool true) ∧ Below w.heap.size w w' := by
  obtain ⟨k, hk, hk5⟩ : ∃ k : Nat, ((r : Int)).tmod 5 = (k : Int) ∧ k < 5 := ⟨r % 5, by rw [Int.tmod_eq_emod_of_nonneg (by omega)]; omega, by omega⟩
  have hk5' : (k : Int) < 5 := by omega
  go_enter Try.func9, Try.ntmps9
  go_wp2_with fail
  refine (shown_any _).mono ?_
  rintro x w1 ⟨rfl, h1⟩
  have SC := Lib.hid (hs.up h1)
  have U1 := Lib.hid h1
  clear h1
  go_wp2_with fail
  refine (short_any A n cap _ cs SC.out).mono ?_
  rintro x w2 ⟨⟨m, hm, hmn, rfl⟩, rfl⟩
  go_wp2_with fail
  refine (make_any (cs.take m) A m cap _ (SC.out.take hmn) (fun c hc => hok c (List.mem_of_mem_take hc)) (by omega)).mono ?_
  rintro x w3 ⟨⟨es, H, v3, rfl, hmd, hlen, hown⟩, h3⟩
  obtain ⟨A3, cap3, rfl, hS⟩ := Sl.of_own hown
  have U3 := Lib.hid (show Lex.Up w w3 from U1.out.trans h3)
  have SE := Lib.hid (show EvSl w3 A3 es.length cap3 es from hS)
  have MD := Lib.hid hmd
  have hN : es.length ≤ 40 := by omega
  clear hmd hown hS h3 SC U1
  clear hs hok
  go_wp2_with fail
  refine (clock_any es A3 es.length cap3 _ SE.out (by omega)).mono ?_
  rintro x w4 ⟨⟨c, rfl, hw⟩, hu⟩
  unfold Ck.val
  obtain ⟨p1, p2, p3, p4, p5, p6, p7⟩ := Pst.more MD.out (by omega) hw hk5 _ rfl
  obtain ⟨e, he⟩ : ∃ e : Ev, e = ⟨k, c.get k + 1, c, Pst.hgt es c, 1, ⟨#[99, 121]⟩, 0, ⟨#[]⟩⟩ := ⟨_, rfl⟩
  rw [← he] at p1 p2 p3 p4
  have q4 := p4 { e with h := Pst.hgt es c + 1 } rfl
  have U4 := Lib.hid hu
  have P1 := Lib.hid p1; have P2 := Lib.hid p2; have P3 := Lib.hid p3; have P4 := Lib.hid q4; have P5 := Lib.hid p5; have P6 := Lib.hid p6
  have CH := Lib.hid (fun w' (hu : Lex.Up w3 w') => height_any es c A3 es.length cap3 w' (SE.out.up hu))
  unfold Ck.val at CH
  obtain ⟨g0, g1⟩ := p7
  have ck0 := p6 k hk5
  have hx0 := ck0.1
  have hx1 : c.get k ≤ 40 := by have := ck0.2; omega
  clear hu hw p1 p2 p3 p4 p5 p6 q4 ck0 MD
  have EO := Lib.hid he
  generalize hg : Pst.hgt es c = g at *
  generalize hx : c.get k = x0 at *
  clear he
  have hw1 : IntKind.i64.wrap (x0 + 1) = x0 + 1 := by rw [IntKind.wrap_i64]; omega
  go_upto_region 5 with (fail)
  refine wp_named (fun W5 hW => ?_)
  have K7 := Lib.hid (show Blk W5 w4.heap.size c.cells 23 by rw [hW]; exact Blk.new w4 c.cells _)
  have U5 := Lib.hid (show Lex.Up w3 W5 by rw [hW]; exact U4.out.alloc U4.out.size _)
  have hb7 : w3.heap.size ≤ w4.heap.size := U4.out.size
  have lt7 : w4.heap.size < W5.heap.size := K7.out.lt
  clear hW U4
  generalize w4.heap.size = b7 at *
  refine Lex.wp_region_lex_tail 11 (by kernel_rfl) (by kernel_rfl) (by kernel_rfl) (by rfl) ?_
  simp only [List.take_succ_cons, List.take_zero, List.drop_succ_cons, List.drop_zero]
  repeat (first | (refine Lex.lex_skip (by rfl) (by rfl) (by rfl) ?_; simp only [Act.put, List.setIfInBounds_toArray, List.set_cons_zero, List.set_cons_succ]) | (refine Lex.lex_pure (c := ?_) (by rfl) (by rfl) (fun w' hC => ?_) (by rfl) ?_; rotate_left 1; (obtain ⟨e0, e1, e2, e3, e4⟩ := (K7.out.up hC).ck; have ek := (K7.out.up hC).cka hk5; rw [hx] at ek; go_simp; rfl); simp only [Act.put, List.setIfInBounds_toArray, List.set_cons_zero, List.set_cons_succ]))
  refine Lex.lex_callv (f := 26) (args := #[.slice A3 es.length cap3, .agg #[.int .i64 c.c0, .int .i64 c.c1, .int .i64 c.c2, .int .i64 c.c3, .int .i64 c.c4]]) (.int .i64 g) (by rfl) (by rfl) (fun w' => by go_simp) (fun w' hC => CH.out w' (U5.out.trans hC)) (by rfl) ?_
  simp only [Act.put, List.setIfInBounds_toArray, List.set_cons_zero, List.set_cons_succ]
  repeat (first | (refine Lex.lex_skip (by rfl) (by rfl) (by rfl) ?_; simp only [Act.put, List.setIfInBounds_toArray, List.set_cons_zero, List.set_cons_succ]) | (refine Lex.lex_pure (c := ?_) (by rfl) (by rfl) (fun w' hC => ?_) (by rfl) ?_; rotate_left 1; (obtain ⟨e0, e1, e2, e3, e4⟩ := (K7.out.up hC).ck; have ek := (K7.out.up hC).cka hk5; rw [hx] at ek; go_simp; rfl); simp only [Act.put, List.setIfInBounds_toArray, List.set_cons_zero, List.set_cons_succ]))
  refine Lex.lex_make (v := fun w => .pointer (some ⟨w.heap.size, 0, none⟩)) (f := fun w => w.alloc (.cells #[.int .i64 0, .int .i64 0, .int .i64 0, .int .i64 0, .int .i64 0, .int .i64 0, .int .i64 0, .int .i64 0, .int .i64 0, .string ⟨#[]⟩, .int .i64 0, .string ⟨#[]⟩] 51)) 9 (ptrFact Ev.zero W5.heap.size) (by rfl) (by rfl) (by rfl) (ptrFact_up _ _) (fun w' hC => ?_) (fun w' hC => ⟨(Below.refl _ _).alloc (Nat.le_refl _) _, w'.heap.size, rfl, hC.size, Blk.new w' Ev.zero.cells _⟩) (by rfl) ?_
  · have := hC; clear this; go_simp
  refine Lex.lex_nil (fun w6 hC => ?_)
  simp only [Lex.fill]
  rintro v9 ⟨b9, rfl, hB9, hb9⟩
  have KZ := Lib.hid hb9
  have U6 := Lib.hid (U5.out.trans hC)
  have K76 := Lib.hid (K7.out.up hC)
  obtain ⟨z0, z1, z2, z3, z4, z5, z6, z7, z8, z9, z10, z11⟩ := hb9.ev12
  have fr := hb9.frozen
  have f0 := fr 0; have f1 := fr 1; have f2 := fr 2; have f3 := fr 3; have f4 := fr 4; have f5 := fr 5; have f6 := fr 6; have f7 := fr 7; have f8 := fr 8; have f9 := fr 9; have f10 := fr 10; have f11 := fr 11
  have h79 : b7 ≠ b9 := by omega
  have h39 : w3.heap.size ≤ b9 := Nat.le_trans U5.out.size hB9
  clear fr hC hb9 CH U5 K7
  change wpList _ _ _ _ _ w6
  go_upto_region 6 with (fail)
  refine wp_named (fun W6 hW => ?_)
  have K9 := Lib.hid (show Blk W6 b9 e.cells 51 by
    have := st12_blk KZ.out e
    rw [EO.out] at this ⊢
    rw [hW]; exact this)
  have K7 := Lib.hid (show Blk W6 b7 c.cells 23 by
    have := st12_other K76.out h79 e
    rw [EO.out] at this
    rw [hW]; exact this)
  have U7 := Lib.hid (show Lex.Up w3 W6 by
    have := st12_below U6.out h39 e
    rw [EO.out] at this
    rw [hW]; exact this)
  clear hW KZ K76 U6 z0 z1 z2 z3 z4 z5 z6 z7 z8 z9 z10 z11 f0 f1 f2 f3 f4 f5 f6 f7 f8 f9 f10 f11
  obtain ⟨B6, hB6⟩ : ∃ B6, B6 = W6.heap.size := ⟨_, rfl⟩
  have l96 : b9 < B6 := by rw [hB6]; exact K9.out.lt
  have l76 : b7 < B6 := by rw [hB6]; exact K7.out.lt
  have l36 : w3.heap.size ≤ B6 := by rw [hB6]; exact U7.out.size
  have HB6 := Lib.hid hB6
  clear hB6
  refine Lex.wp_region_lex_tail 5 (by kernel_rfl) (by kernel_rfl) (by kernel_rfl) (by rfl) ?_
  simp only [List.take_succ_cons, List.take_zero, List.drop_succ_cons, List.drop_zero]
  refine Lex.lex_make (v := fun w => .slice (some ⟨w.heap.size, 0, none⟩) 0 0) (f := fun w => w.alloc (.cells #[] 51)) 34 (emptyFact 51 B6) (by rfl) (by rfl) (by rfl) (emptyFact_up _ _) (fun w' hC => ?_) (fun w' hC => empty_made w' _ _ (by rw [HB6.out]; exact hC.size)) (by rfl) ?_
  · have := hC; clear this; go_simp
  repeat (first | (refine Lex.lex_skip (by rfl) (by rfl) (by rfl) ?_; simp only [Act.put, List.setIfInBounds_toArray, List.set_cons_zero, List.set_cons_succ]) | (refine Lex.lex_pure (c := ?_) (by rfl) (by rfl) (fun w' hC => ?_) (by rfl) ?_; rotate_left 1; (go_simp; rfl); simp only [Act.put, List.setIfInBounds_toArray, List.set_cons_zero, List.set_cons_succ]))
  refine ESe.lex_copy 36 (.tmp 35) (by rfl) (by rfl) (fun u => by rfl) (by rfl) A3 es.length cap3 (evc es) (fun u => ⟨by rfl, by rfl⟩) (fun w' hC => SE.out.up (U7.out.trans hC)) (by omega) (by simp only [maxLen]; omega) (fun w' hC => by rw [HB6.out]; exact hC.size) (by rfl) ?_
  repeat (first | (refine Lex.lex_skip (by rfl) (by rfl) (by rfl) ?_; simp only [Act.put, List.setIfInBounds_toArray, List.set_cons_zero, List.set_cons_succ]) | (refine Lex.lex_pure (c := ?_) (by rfl) (by rfl) (fun w' hC => ?_) (by rfl) ?_; rotate_left 1; (obtain ⟨z0, z1, z2, z3, z4, z5, z6, z7, z8, z9, z10, z11⟩ := (K9.out.up hC).ev12; go_simp; rfl); simp only [Act.put, List.setIfInBounds_toArray, List.set_cons_zero, List.set_cons_succ]))
  refine Lex.lex_make (v := fun w => .slice (some ⟨w.heap.size, 0, none⟩) 1 1) (f := fun w => w.alloc (.cells #[.int .i64 e.r, .int .i64 e.n, .int .i64 e.c.c0, .int .i64 e.c.c1, .int .i64 e.c.c2, .int .i64 e.c.c3, .int .i64 e.c.c4, .int .i64 e.h, .int .i64 e.k, .string e.key, .int .i64 e.l, .string e.v] 51)) 38 (evFact e) (by rfl) (by rfl) (by rfl) (evFact_up _) (fun w' hC => ?_) (fun w' _ => ev_made w' e) (by rfl) ?_
  · have := hC; clear this; go_simp
  refine Lex.lex_nil (fun w7 hC => ?_)
  simp only [Lex.fill]
  rintro v38 ⟨b38, rfl, hb38⟩ v36 h36 v34 ⟨b34, rfl, _⟩
  have O7 := Lib.hid (show w7.ownsRow B6 51 12 v36 es.length (evc es) from h36)
  obtain ⟨A36, cap36, rfl, _⟩ := Sl.of_own h36
  have SX := Lib.hid (evFact_sl hb38)
  have V7 := Lib.hid hC
  have Z7 : B6 ≤ w7.heap.size := by rw [HB6.out]; exact hC.size
  have OB := Lib.hid (own_base O7.out)
  clear hC hb38 h36
  change wpList _ _ _ _ _ w7
  go_wp2_with (at_builtin; refine ESe.wpList_append (by rfl) _ _ rfl B6 _ es.length (evc es) rfl O7.out (some ⟨b38, 0, none⟩) 1 1 (evc [e]) rfl SX.out (evc_one' _) (by omega) (by simp only [maxLen]; omega) Z7 ?_)
  intro v10 w8 hown hg
  have O8 := Lib.hid (show w8.ownsRow B6 51 12 v10 (es ++ [e]).length (evc (es ++ [e])) by rw [evc_append, List.length_append]; exact hown)
  have V8 := Lib.hid (show Lex.Up W6 w8 by have := Below.grown (B := B6) (by rw [HB6.out]; exact V7.out) hg Z7 OB.out; rw [HB6.out] at this; exact this)
  obtain ⟨A10, cap10, rfl, _⟩ := Sl.of_own hown
  clear hown hg V7 Z7 OB SX O7
  -- the second clock, and the event that is one higher
  have K98 := Lib.hid (K9.out.up V8.out)
  have K78 := Lib.hid (K7.out.up V8.out)
  have U8 := Lib.hid (U7.out.trans V8.out)
  obtain ⟨d0, d1, d2, d3, d4⟩ := K78.out.ck
  clear K9 K7 U7 V8
  go_upto_region 8 with (fail)
  refine wp_named (fun W8 hW => ?_)
  have K9 := Lib.hid (show Blk W8 b9 e.cells 51 by rw [hW]; exact K98.out.alloc _)
  have K7 := Lib.hid (show Blk W8 b7 c.cells 23 by rw [hW]; exact K78.out.alloc _)
  have K11 := Lib.hid (show Blk W8 w8.heap.size c.cells 23 by rw [hW]; exact Blk.new w8 c.cells _)
  have U9 := Lib.hid (show Lex.Up w3 W8 by rw [hW]; exact U8.out.alloc U8.out.size _)
  have O9 := Lib.hid (show W8.ownsRow B6 51 12 (.slice A10 (es.length + 1) cap10) (es ++ [e]).length (evc (es ++ [e])) by rw [hW]; exact O8.out.alloc _)
  have l911 : b9 < w8.heap.size := K98.out.lt
  have l711 : b7 < w8.heap.size := K78.out.lt
  have l311 : w3.heap.size ≤ w8.heap.size := U8.out.size
  clear hW K98 K78 U8 O8 d0 d1 d2 d3 d4
  generalize w8.heap.size = b11 at *
  have ek := K11.out.cka hk5
  rw [hx] at ek
  have fk := K11.out.frozen k
  go_upto_region 9 with (fail)
  refine wp_named (fun W9 hW => ?_)
  have K9' := Lib.hid (show Blk W9 b9 e.cells 51 by rw [hW]; exact K9.out.other (by simp; omega) _)
  have K7' := Lib.hid (show Blk W9 b7 c.cells 23 by rw [hW]; exact K7.out.other (by simp; omega) _)
  have K11' := Lib.hid (show Blk W9 b11 (c.set k (x0 + 1)).cells 23 by rw [hW, ← ckset_cells c k hk5]; exact K11.out.set _ _)
  have U9' := Lib.hid (show Lex.Up w3 W9 by rw [hW]; exact U9.out.setCell (by exact l311) _)
  have N9 := own_ne O9.out K11.out (by decide)
  have O9' := Lib.hid (show W9.ownsRow B6 51 12 (.slice A10 (es.length + 1) cap10) (es ++ [e]).length (evc (es ++ [e])) by rw [hW]; exact own_keep O9.out (fun q hq => Below.heap_setCell _ _ _ _ (fun z => N9 (by rw [hq, z]))))
  clear hW K9 K7 K11 U9 O9 N9 ek fk
  obtain ⟨z0, z1, z2, z3, z4, z5, z6, z7, z8, z9, z10, z11⟩ := K9'.out.ev12
  have f7 := K9'.out.frozen 7
  have eh : e.h = g := by rw [EO.out]
  rw [eh] at z7
  go_upto_region 10 with (fail)
  refine wp_named (fun W10 hW => ?_)
  obtain ⟨e2, he2⟩ : ∃ e2 : Ev, e2 = { e with h := g + 1 } := ⟨_, rfl⟩
  have KE := Lib.hid (show Blk W10 b9 e2.cells 51 by
    have := K9'.out.set 7 (.int .i64 (g + 1))
    rw [hW, he2]
    simp only [Ev.cells, List.setIfInBounds_toArray, List.set_cons_zero, List.set_cons_succ] at this ⊢
    exact this)
  have K7 := Lib.hid (show Blk W10 b7 c.cells 23 by rw [hW]; exact K7'.out.other (by simp; omega) _)
  have K11 := Lib.hid (show Blk W10 b11 (c.set k (x0 + 1)).cells 23 by rw [hW]; exact K11'.out.other (by simp; omega) _)
  have U10 := Lib.hid (show Lex.Up w3 W10 by rw [hW]; exact U9'.out.setCell (by exact h39) _)
  have O10 := Lib.hid (show W10.ownsRow B6 51 12 (.slice A10 (es.length + 1) cap10) (es ++ [e]).length (evc (es ++ [e])) by rw [hW]; exact own_keep O9'.out (fun q hq => Below.heap_setCell _ _ _ _ (fun z => by have := own_base O9'.out q hq; simp at z; omega)))
  have P4' := Lib.hid (show ¬ Pst.RightP (es ++ [e2]) by rw [he2]; exact P4.out)
  clear hW K9' K7' K11' U9' O9' z0 z1 z2 z3 z4 z5 z6 z7 z8 z9 z10 z11 f7 P4 he2 eh EO
  have SV := Lib.hid (show EvSl W10 A10 (es.length + 1) cap10 (es ++ [e]) by
    obtain ⟨A', c', q, hs'⟩ := Sl.of_own O10.out
    have el : (es ++ [e]).length = es.length + 1 := by simp
    rw [el] at q hs'
    injection q with q1 q2 q3
    subst q1 q3
    exact hs')
  clear O10
  clear HB6
  obtain ⟨B6, hB6⟩ : ∃ B6, B6 = W10.heap.size := ⟨_, rfl⟩
  have HB6 := Lib.hid hB6
  clear hB6
  refine Lex.wp_region_lex_tail 5 (by kernel_rfl) (by kernel_rfl) (by kernel_rfl) (by rfl) ?_
  simp only [List.take_succ_cons, List.take_zero, List.drop_succ_cons, List.drop_zero]
  refine Lex.lex_make (v := fun w => .slice (some ⟨w.heap.size, 0, none⟩) 0 0) (f := fun w => w.alloc (.cells #[] 51)) 51 (emptyFact 51 B6) (by rfl) (by rfl) (by rfl) (emptyFact_up _ _) (fun w' hC => ?_) (fun w' hC => empty_made w' _ _ (by rw [HB6.out]; exact hC.size)) (by rfl) ?_
  · have := hC; clear this; go_simp
  repeat (first | (refine Lex.lex_skip (by rfl) (by rfl) (by rfl) ?_; simp only [Act.put, List.setIfInBounds_toArray, List.set_cons_zero, List.set_cons_succ]) | (refine Lex.lex_pure (c := ?_) (by rfl) (by rfl) (fun w' hC => ?_) (by rfl) ?_; rotate_left 1; (go_simp; rfl); simp only [Act.put, List.setIfInBounds_toArray, List.set_cons_zero, List.set_cons_succ]))
  refine ESe.lex_copy 53 (.tmp 52) (by rfl) (by rfl) (fun u => by rfl) (by rfl) A3 es.length cap3 (evc es) (fun u => ⟨by rfl, by rfl⟩) (fun w' hC => SE.out.up (U10.out.trans hC)) (by omega) (by simp only [maxLen]; omega) (fun w' hC => by rw [HB6.out]; exact hC.size) (by rfl) ?_
  repeat (first | (refine Lex.lex_skip (by rfl) (by rfl) (by rfl) ?_; simp only [Act.put, List.setIfInBounds_toArray, List.set_cons_zero, List.set_cons_succ]) | (refine Lex.lex_pure (c := ?_) (by rfl) (by rfl) (fun w' hC => ?_) (by rfl) ?_; rotate_left 1; (obtain ⟨z0, z1, z2, z3, z4, z5, z6, z7, z8, z9, z10, z11⟩ := (KE.out.up hC).ev12; go_simp; rfl); simp only [Act.put, List.setIfInBounds_toArray, List.set_cons_zero, List.set_cons_succ]))
  refine Lex.lex_make (v := fun w => .slice (some ⟨w.heap.size, 0, none⟩) 1 1) (f := fun w => w.alloc (.cells #[.int .i64 e2.r, .int .i64 e2.n, .int .i64 e2.c.c0, .int .i64 e2.c.c1, .int .i64 e2.c.c2, .int .i64 e2.c.c3, .int .i64 e2.c.c4, .int .i64 e2.h, .int .i64 e2.k, .string e2.key, .int .i64 e2.l, .string e2.v] 51)) 55 (evFact e2) (by rfl) (by rfl) (by rfl) (evFact_up _) (fun w' hC => ?_) (fun w' _ => ev_made w' e2) (by rfl) ?_
  · have := hC; clear this; go_simp
  refine Lex.lex_nil (fun w11 hC => ?_)
  simp only [Lex.fill]
  rintro v55 ⟨b55, rfl, hb55⟩ v53 h53 v51 ⟨b51, rfl, _⟩
  have O11 := Lib.hid (show w11.ownsRow B6 51 12 v53 es.length (evc es) from h53)
  obtain ⟨A53, cap53, rfl, _⟩ := Sl.of_own h53
  have SX := Lib.hid (evFact_sl hb55)
  have V11 := Lib.hid hC
  have Z11 : B6 ≤ w11.heap.size := by rw [HB6.out]; exact hC.size
  have OB := Lib.hid (own_base O11.out)
  clear hC hb55 h53
  change wpList _ _ _ _ _ w11
  go_wp2_with (at_builtin; refine ESe.wpList_append (by rfl) _ _ rfl B6 _ es.length (evc es) rfl O11.out (some ⟨b55, 0, none⟩) 1 1 (evc [e2]) rfl SX.out (evc_one' _) (by omega) (by simp only [maxLen]; omega) Z11 ?_)
  intro v12 w12 hown hg
  have V12 := Lib.hid (show Lex.Up W10 w12 by have := Below.grown (B := B6) (by rw [HB6.out]; exact V11.out) hg Z11 OB.out; rw [HB6.out] at this; exact this)
  have SU := Lib.hid (show ∃ A12 cap12, v12 = .slice A12 (es.length + 1) cap12 ∧ EvSl w12 A12 (es.length + 1) cap12 (es ++ [e2]) by
    obtain ⟨A', c', q, hs'⟩ := Sl.of_own (show w12.ownsRow B6 51 12 v12 (es.length + 1) (evc (es ++ [e2])) by rw [evc_append]; exact hown)
    exact ⟨A', c', q, hs'⟩)
  obtain ⟨A12, cap12, rfl, su⟩ := SU.out
  have S12 := Lib.hid su
  have SV12 := Lib.hid (SV.out.up V12.out)
  have K7b := Lib.hid (K7.out.up V12.out)
  have K11b := Lib.hid (K11.out.up V12.out)
  have U12 := Lib.hid (U10.out.trans V12.out)
  clear hown hg V11 Z11 OB SX O11 su SU SV K7 K11 U10 V12 KE
  go_wp2
  go_loopw [13, 14] (fun v13 v14 wr => SumRel c w12 v13 v14 wr) (fun _ v _ => 5 - (intOf v).toNat)
  case atStart => exact ⟨0, by omega, rfl, rfl, Lib.hid rfl⟩
  case round =>
    obtain ⟨i, hi, rfl, rfl, HW⟩ := hrel
    obtain rfl := HW.out
    by_cases hi5 : i < 5
    · have hi5' : (i : Int) < 5 := by omega
      have ei := K7b.out.cka hi5
      have sm := Lib.hid (show Pst.sumTo c (i + 1) = Pst.sumTo c i + c.get i from rfl)
      have b1 : 0 ≤ Pst.sumTo c i ∧ Pst.sumTo c i ≤ 1000 := by
        have h0 := P6.out 0 (by omega); have h1 := P6.out 1 (by omega); have h2 := P6.out 2 (by omega); have h3 := P6.out 3 (by omega); have h4 := P6.out 4 (by omega)
        match i, hi5 with
        | 0, _ | 1, _ | 2, _ | 3, _ | 4, _ => simp only [Pst.sumTo]; omega
      have b2 := P6.out i hi5
      have b3 : c.get i ≤ 40 := by omega
      obtain ⟨b4, b5⟩ := b1
      have b6 := b2.1
      generalize c.get i = y at *
      generalize Pst.sumTo c i = s at *
      clear b2
      go_wp2
      go_roundw
      case rel => exact ⟨i + 1, by omega, by rw [sm.out], by go_num, Lib.hid rfl⟩
      case measure => simp [intOf]; omega
    · obtain rfl : i = 5 := by omega
      have hsum := P5.out
      have C1 := Lib.hid (fun w' (hu : Lex.Up wr w') => right_yes (es ++ [e]) _ (es.length + 1) cap10 w' (SV12.out.up hu) P1.out)
      have C2 := Lib.hid (fun w' (hu : Lex.Up wr w') => ordered_yes (es ++ [e]) _ (es.length + 1) cap10 w' (SV12.out.up hu) (by omega) P2.out)
      have C3 := Lib.hid (fun w' (hu : Lex.Up wr w') => clock_is (es ++ [e]) _ (es.length + 1) cap10 w' (SV12.out.up hu) (by omega) _ P3.out)
      have C4 := Lib.hid (fun w' (hu : Lex.Up wr w') => right_no (es ++ [e2]) _ (es.length + 1) cap12 w' (S12.out.up hu) P4'.out)
      generalize hdd : c.set k (x0 + 1) = d at *
      have q : ∀ w' : World, (Op.equalIn 10000 23 (.agg #[.int .i64 d.c0, .int .i64 d.c1, .int .i64 d.c2, .int .i64 d.c3, .int .i64 d.c4]) (.agg #[.int .i64 d.c0, .int .i64 d.c1, .int .i64 d.c2, .int .i64 d.c3, .int .i64 d.c4])).run Try.prog w' = .ok true w' := fun w' => by
        have := eq_five 9998 d d w'
        simpa using this
      have hq : (Pst.sumTo c 5 == (es.length : Int)) = true := by simpa using hsum
      unfold Ck.val at C3
      generalize Pst.sumTo c 5 = s at *
      clear P1 P2 P3 P4' P5 P6 SV12 S12 K7b HW hsum hdd
      go_upto_region 16 with (fail)
      refine Lex.wp_region_lex (by kernel_rfl) (by kernel_rfl) (by rfl) ?_
      repeat (first | (refine Lex.lex_skip (by rfl) (by rfl) (by rfl) ?_; simp only [Act.put, List.setIfInBounds_toArray, List.set_cons_zero, List.set_cons_succ]) | (refine Lex.lex_pure (c := ?_) (by rfl) (by rfl) (fun w' hC => ?_) (by rfl) ?_; rotate_left 1; (go_simp; rfl); simp only [Act.put, List.setIfInBounds_toArray, List.set_cons_zero, List.set_cons_succ]))
      refine Lex.lex_callv (.bool true) (by rfl) (by rfl) (fun w' => by go_simp) (fun w' hC => C1.out w' hC) (by rfl) ?_
      simp only [Act.put, List.setIfInBounds_toArray, List.set_cons_zero, List.set_cons_succ]
      repeat (first | (refine Lex.lex_skip (by rfl) (by rfl) (by rfl) ?_; simp only [Act.put, List.setIfInBounds_toArray, List.set_cons_zero, List.set_cons_succ]) | (refine Lex.lex_pure (c := ?_) (by rfl) (by rfl) (fun w' hC => ?_) (by rfl) ?_; rotate_left 1; (go_simp; rfl); simp only [Act.put, List.setIfInBounds_toArray, List.set_cons_zero, List.set_cons_succ]))
      refine Lex.lex_callv (.bool true) (by rfl) (by rfl) (fun w' => by go_simp) (fun w' hC => C2.out w' hC) (by rfl) ?_
      simp only [Act.put, List.setIfInBounds_toArray, List.set_cons_zero, List.set_cons_succ]
      repeat (first | (refine Lex.lex_skip (by rfl) (by rfl) (by rfl) ?_; simp only [Act.put, List.setIfInBounds_toArray, List.set_cons_zero, List.set_cons_succ]) | (refine Lex.lex_pure (c := ?_) (by rfl) (by rfl) (fun w' hC => ?_) (by rfl) ?_; rotate_left 1; (go_simp; rfl); simp only [Act.put, List.setIfInBounds_toArray, List.set_cons_zero, List.set_cons_succ]))
      refine Lex.lex_callv (.agg #[.int .i64 d.c0, .int .i64 d.c1, .int .i64 d.c2, .int .i64 d.c3, .int .i64 d.c4]) (by rfl) (by rfl) (fun w' => by go_simp) (fun w' hC => C3.out w' hC) (by rfl) ?_
      simp only [Act.put, List.setIfInBounds_toArray, List.set_cons_zero, List.set_cons_succ]
      repeat (first | (refine Lex.lex_skip (by rfl) (by rfl) (by rfl) ?_; simp only [Act.put, List.setIfInBounds_toArray, List.set_cons_zero, List.set_cons_succ]) | (refine Lex.lex_pure (c := ?_) (by rfl) (by rfl) (fun w' hC => ?_) (by rfl) ?_; rotate_left 1; (obtain ⟨d0, d1, d2, d3, d4⟩ := (K11b.out.up hC).ck; go_simp; rfl); simp only [Act.put, List.setIfInBounds_toArray, List.set_cons_zero, List.set_cons_succ]))
      refine Lex.lex_callv (.bool false) (by rfl) (by rfl) (fun w' => by go_simp) (fun w' hC => C4.out w' hC) (by rfl) ?_
      simp only [Act.put, List.setIfInBounds_toArray, List.set_cons_zero, List.set_cons_succ]
      repeat (first | (refine Lex.lex_skip (by rfl) (by rfl) (by rfl) ?_; simp only [Act.put, List.setIfInBounds_toArray, List.set_cons_zero, List.set_cons_succ]) | (refine Lex.lex_pure (c := ?_) (by rfl) (by rfl) (fun w' hC => ?_) (by rfl) ?_; rotate_left 1; (go_simp; rfl); simp only [Act.put, List.setIfInBounds_toArray, List.set_cons_zero, List.set_cons_succ]))
      refine Lex.lex_nil (fun w13 hC => ?_)
      simp only [Lex.fill]
      have U13 := Lib.hid (U12.out.trans hC)
      clear hC C1 C2 C3 C4
      go_wp2
      go_ret
      exact ⟨rfl, U3.out.trans U13.out⟩
end Go.Proofs.Ythgfbnkggdlokaa
