/-
  The walks of past.Ordered and past.Clock.
-/
import Derived.Test.YthgfbnkggdlokaaPstE
import Derived.Test.YthgfbnkggdlokaaClkLe
namespace Go.Proofs.Ythgfbnkggdlokaa
open Go.RowKit
set_option maxRecDepth 100000
set_option maxRecDepth 100000

namespace Pst
def tallyFrom : List (Mk × Unit) → List Ev → List (Mk × Unit)
  | ms, [] => ms
  | ms, e :: es => tallyFrom (added ms e.mk') es
def tally (es : List Ev) : List (Mk × Unit) := tallyFrom [] es
theorem tallyFrom_snoc (ms : List (Mk × Unit)) (es : List Ev) (e : Ev) : tallyFrom ms (es ++ [e]) = added (tallyFrom ms es) e.mk' := by
  induction es generalizing ms with
  | nil => rfl
  | cons x es ih => exact ih _
theorem tally_take {es : List Ev} {k : Nat} (h : k < es.length) : tally (es.take (k + 1)) = added (tally (es.take k)) (Ev.nth es k).mk' := by
  unfold tally
  rw [List.take_succ_eq_append_getElem h, tallyFrom_snoc]
  simp [Ev.nth, h]
theorem added_length (ms : List (Mk × Unit)) (m : Mk) : (added ms m).length ≤ ms.length + 1 := by
  unfold added
  split
  · rw [Al.put_length]; split <;> omega
  · omega
theorem tallyFrom_length (ms : List (Mk × Unit)) (es : List Ev) : (tallyFrom ms es).length ≤ ms.length + es.length := by
  induction es generalizing ms with
  | nil => simp [tallyFrom]
  | cons e es ih =>
    have h1 := ih (added ms e.mk')
    have h2 := added_length ms e.mk'
    rw [tallyFrom, List.length_cons]; omega
theorem tally_length (es : List Ev) : (tally es).length ≤ es.length := by have := tallyFrom_length [] es; simpa [tally] using this
theorem isIn_added (ms : List (Mk × Unit)) (m : Mk) (r n : Int) : isIn (added ms m) r n = (isIn ms r n || (Ck.rep m.r && decide (r = m.r ∧ n = m.n))) := by
  unfold added
  cases h : Ck.rep m.r
  · simp
  · simp [isIn_put]
theorem isIn_added_iff (ms : List (Mk × Unit)) (m : Mk) (r n : Int) : isIn (added ms m) r n = true ↔ isIn ms r n = true ∨ (Ck.rep m.r = true ∧ r = m.r ∧ n = m.n) := by
  rw [isIn_added]
  cases isIn ms r n <;> cases Ck.rep m.r <;> simp
theorem isIn_tallyFrom (es : List Ev) (r n : Int) : ∀ ms, isIn (tallyFrom ms es) r n = true ↔ isIn ms r n = true ∨ ∃ e ∈ es, e.r = r ∧ e.n = n ∧ Ck.rep r = true := by
  induction es with
  | nil => intro ms; simp [tallyFrom]
  | cons x es ih =>
    intro ms
    rw [tallyFrom, ih, isIn_added_iff]
    simp only [Ev.mk', List.mem_cons]
    constructor
    · rintro ((h | ⟨h1, h2, h3⟩) | ⟨e, he, h⟩)
      · exact .inl h
      · exact .inr ⟨x, .inl rfl, h2.symm, h3.symm, by rw [h2]; exact h1⟩
      · exact .inr ⟨e, .inr he, h⟩
    · rintro (h | ⟨e, rfl | he, h1, h2, h3⟩)
      · exact .inl (.inl h)
      · exact .inl (.inr ⟨by rw [h1]; exact h3, h1.symm, h2.symm⟩)
      · exact .inr ⟨e, he, h1, h2, h3⟩
theorem isIn_tally (es : List Ev) (r n : Int) : isIn (tally es) r n = true ↔ ∃ e ∈ es, e.r = r ∧ e.n = n ∧ Ck.rep r = true := by
  have := isIn_tallyFrom es r n []
  unfold tally
  rw [this]
  constructor
  · rintro (h | h)
    · cases h
    · exact h
  · exact .inr
/-- An event of each mark that a clock has is in a list. -/
def Sees (l : List Ev) (a : Ck) : Prop := ∀ r : Nat, r < 5 → ∀ j : Int, 1 ≤ j → j ≤ a.get r → isIn (tally l) r j = true
theorem le_whole {ms : List (Mk × Unit)} {c a : Ck} (h : Whole ms c) : Ck.le a c = true ↔ ∀ r : Nat, r < 5 → ∀ j : Int, 1 ≤ j → j ≤ a.get r → isIn ms r j = true := by
  rw [Ck.le_iff]
  constructor
  · intro hl r hr j h1 h2
    exact (h r hr).2.1 j h1 (Int.le_trans h2 (hl r hr))
  · intro hs r hr
    rcases Int.lt_or_le (c.get r) (a.get r) with h1 | h1
    · obtain ⟨g0, _, g2⟩ := h r hr
      have := hs r hr (c.get r + 1) (by omega) (by omega)
      rw [this] at g2; cases g2
    · exact h1
def OrdP (es : List Ev) : Prop := ∀ i, i < es.length → Sees (es.take i) (Ev.nth es i).c
end Pst
def OrdRel (es : List Ev) (s : Nat) (W : World) (v : Value) (wr : World) : Prop :=
  ∃ (k : Nat) (c : Ck), k ≤ es.length ∧ v = .int .i64 k ∧ Hid (∀ i, i < k → Pst.Sees (es.take i) (Ev.nth es i).c) ∧ Hid (Pst.Whole (Pst.tally (es.take k)) c) ∧ Hid (Blk wr (s + 1) (Pst.tcells s c) 88) ∧ Hid (Mm wr s (Pst.mks (Pst.tally (es.take k)))) ∧ Hid (Below s W wr)

set_option maxHeartbeats 3200000 in
theorem ordered_any (es : List Ev) (A : Option Addr) (n cap : Nat) (w : World) (h : EvSl w A n cap es) (hn : n ≤ 1000000) :
    Calls Try.prog 24 #[.slice A n cap] w fun x w' => (∃ z : Bool, x = .returned (.bool z) ∧ (z = true ↔ Pst.OrdP es)) ∧ Lex.Up w w' := by
  have hmm := @run_makeMap Try.prog
  have CL := Lib.hid (fun a c w => le_any a c w)
  have CM := Lib.hid (fun e w => markOf_any e w)
  have SL := Lib.hid (fun w' (hu : Lex.Up w w') => EvSl.up h hu)
  have AD := Lib.hid h.addr
  have hl := h.len
  have hlim := h.lim
  have HL := Lib.hid hl
  have LT := Lib.hid (fun k => show (Pst.tally (es.take k)).length ≤ 4611686018427387904 by have := Pst.tally_length (es.take k); rw [List.length_take] at this; omega)
  unfold Ev.val at CM
  unfold Ck.val at CL
  have M0 := Lib.hid ((Mm.new w).alloc (.cells (Pst.tcells w.heap.size Ck.zero) 88))
  have T0 := Lib.hid (Blk.new (w.alloc (.map #[] 0)) (Pst.tcells w.heap.size Ck.zero) 88)
  have U0 := Lib.hid (show Below w.heap.size w ((w.alloc (.map #[] 0)).alloc (.cells (Pst.tcells w.heap.size Ck.zero) 88)) from ((Below.refl _ _).alloc (Nat.le_refl _) _).alloc (by simp) _)
  clear h hl
  go_enter Try.func24, Try.ntmps24
  go_upto_region 2 with (fail)
  refine wp_named (fun W hW => ?_)
  rw [← show W = (w.alloc (.map #[] 0)).alloc (.cells (Pst.tcells w.heap.size Ck.zero) 88) from hW] at M0 T0 U0
  simp only [World.size_alloc] at T0
  clear hW hmm
  go_wp2
  go_loopw [10] (fun v wr => OrdRel es w.heap.size w v wr) (fun v _ => n - (intOf v).toNat)
  case atStart => exact ⟨0, Ck.zero, by omega, rfl, Lib.hid (fun i hi => absurd hi (by omega)), Lib.hid Pst.whole_zero, T0, M0, U0⟩
  case round =>
    obtain ⟨k, c, hk, rfl, HA, WC, TT, MM, UU⟩ := hrel
    rw [HL.out] at hk
    clear M0 T0 U0
    have lts := MM.out.lt
    have ltt := TT.out.lt
    by_cases h5 : k < n
    · have h5' : (k : Int) < n := by omega
      obtain ⟨b, off, rfl⟩ := AD.out (by omega)
      obtain ⟨e0, e1, e2, e3, e4, e5, e6, e7, e8, e9, e10, e11⟩ := ev_at (SL.out wr UU.out) h5
      have KT := Lib.hid (Pst.tally_take (es := es) (k := k) (by rw [HL.out]; exact h5))
      have LK := Lib.hid (LT.out k)
      have LW := Lib.hid (Pst.le_whole (a := (Ev.nth es k).c) WC.out)
      have HN := Lib.hid (fun (h : Ck.le (Ev.nth es k).c c = true) => (show ∀ i, i < k + 1 → Pst.Sees (es.take i) (Ev.nth es i).c from fun i hi => by
        rcases Nat.lt_succ_iff_lt_or_eq.1 hi with h1 | rfl
        · exact HA.out i h1
        · exact LW.out.1 h))
      have HB := Lib.hid (fun (h : Ck.le (Ev.nth es k).c c = false) => (show ¬ Pst.OrdP es from fun ho => by
        have := LW.out.2 (ho k (by rw [HL.out]; exact h5))
        rw [h] at this; cases this))
      generalize hg : Ev.nth es k = e at e0 e1 e2 e3 e4 e5 e6 e7 e8 e9 e10 e11 KT HN HB
      have C1 := Lib.hid (fun w => CL.out e.c c w)
      have C2 := Lib.hid (fun w => CM.out e w)
      generalize Ck.le e.c c = q at *
      clear hg CL CM HA LW
      go_upto_region 5 with (fail)
      refine wp_named (fun W5 hW => ?_)
      have KA := Lib.hid (show Blk W5 wr.heap.size e.cells 51 by rw [hW]; exact Blk.new wr e.cells 51)
      have T5 := Lib.hid (show Blk W5 (w.heap.size + 1) (Pst.tcells w.heap.size c) 88 by rw [hW]; exact TT.out.alloc _)
      have M5 := Lib.hid (show Mm W5 w.heap.size (Pst.mks (Pst.tally (es.take k))) by rw [hW]; exact MM.out.alloc _)
      have U5 := Lib.hid (show Below w.heap.size w W5 by rw [hW]; exact UU.out.alloc (Nat.le_of_lt lts) _)
      clear hW e0 e1 e2 e3 e4 e5 e6 e7 e8 e9 e10 e11 TT MM UU
      obtain ⟨a0, a1, a2, a3, a4, a5, a6, a7, a8, a9, a10, a11⟩ := KA.out.ev12
      obtain ⟨t0, t1, t2, t3, t4, t5⟩ := T5.out.tl
      go_wp2_with fail
      refine (C1.out _).mono ?_
      rintro x w6 ⟨rfl, hu⟩
      have K6 := Lib.hid (KA.out.up hu)
      have T6 := Lib.hid (T5.out.up hu)
      have M6 := Lib.hid (M5.out.up hu)
      have U6 := Lib.hid (show Below w.heap.size w w6 from U5.out.trans (hu.mono U5.out.size))
      clear hu KA T5 M5 U5 C1 a0 a1 a2 a3 a4 a5 a6 a7 a8 a9 a10 a11 t0 t1 t2 t3 t4 t5
      cases q
      · have HB2 := Lib.hid (HB.out rfl)
        clear HN HB
        go_wp2
        go_ret
        exact ⟨⟨false, rfl, by simp [HB2.out]⟩, U6.out⟩
      have HN2 := Lib.hid (HN.out rfl)
      clear HN HB
      obtain ⟨a0, a1, a2, a3, a4, a5, a6, a7, a8, a9, a10, a11⟩ := K6.out.ev12
      go_wp2_with fail
      refine (C2.out _).mono ?_
      rintro x w7 ⟨rfl, hu⟩
      have T7 := Lib.hid (T6.out.up hu)
      have M7 := Lib.hid (M6.out.up hu)
      have U7 := Lib.hid (show Below w.heap.size w w7 from U6.out.trans (hu.mono U6.out.size))
      clear hu C2 K6 T6 M6 U6 a0 a1 a2 a3 a4 a5 a6 a7 a8 a9 a10 a11
      go_wp2_with fail
      refine (add_any (w.heap.size + 1) w.heap.size w.heap.size e.mk' c (Pst.tally (es.take k)) w7 T7.out M7.out WC.out (Nat.le_succ _) (Nat.le_refl _) (by omega) LK.out).mono ?_
      rintro x w8 ⟨rfl, c', hw', ht, hm, hb⟩
      rw [← KT.out] at hw' hm
      have W8 := Lib.hid hw'
      have T8 := Lib.hid ht
      have M8 := Lib.hid hm
      have U8 := Lib.hid (U7.out.trans hb)
      clear hw' ht hm hb T7 M7 U7
      go_wp2
      go_roundw
      case rel => exact ⟨k + 1, c', by rw [HL.out]; omega, by go_num, HN2, W8, T8, M8, U8⟩
      case measure => simp [intOf]; omega
    · obtain rfl : k = n := by omega
      have HO := Lib.hid (show Pst.OrdP es from fun i hi => HA.out i (by rw [← HL.out]; exact hi))
      clear HA CL CM
      go_wp2
      go_ret
      exact ⟨⟨true, rfl, by simp [HO.out]⟩, UU.out⟩

theorem clk_set5 {w : World} {b : Nat} {t : TypeId} {c0 : Ck} (h : Blk w b c0.cells t) (c : Ck) :
    Blk (((((w.setCell ⟨b, 0, none⟩ (.int .i64 c.c0)).setCell ⟨b, 1, none⟩ (.int .i64 c.c1)).setCell ⟨b, 2, none⟩ (.int .i64 c.c2)).setCell ⟨b, 3, none⟩ (.int .i64 c.c3)).setCell ⟨b, 4, none⟩ (.int .i64 c.c4)) b c.cells t :=
  ((((h.set 0 _).set 1 _).set 2 _).set 3 _).set 4 _
def ClkRel (es : List Ev) (s : Nat) (W : World) (v : Value) (wr : World) : Prop :=
  ∃ (k : Nat) (c : Ck), k ≤ es.length ∧ v = .int .i64 k ∧ Hid (Pst.Whole (Pst.tally (es.take k)) c) ∧ Hid (Blk wr s Ck.zero.cells 23) ∧ Hid (Blk wr (s + 1 + 1) (Pst.tcells (s + 1) c) 88) ∧ Hid (Mm wr (s + 1) (Pst.mks (Pst.tally (es.take k)))) ∧ Hid (Below s W wr)
theorem below_up2 {B C : Nat} {w w' : World} (h : Below C w w') (hBC : B ≤ C) : Below B w w' := h.mono hBC

set_option maxHeartbeats 3200000 in
theorem clock_any (es : List Ev) (A : Option Addr) (n cap : Nat) (w : World) (h : EvSl w A n cap es) (hn : n ≤ 1000000) :
    Calls Try.prog 28 #[.slice A n cap] w fun x w' => (∃ c : Ck, x = .returned c.val ∧ Pst.Whole (Pst.tally es) c) ∧ Lex.Up w w' := by
  have hmm := @run_makeMap Try.prog
  have CM := Lib.hid (fun e w => markOf_any e w)
  have SL := Lib.hid (fun w' (hu : Lex.Up w w') => EvSl.up h hu)
  have AD := Lib.hid h.addr
  have hl := h.len
  have hlim := h.lim
  have HL := Lib.hid hl
  have HE := Lib.hid (show es.take n = es by rw [← hl, List.take_length])
  have LT := Lib.hid (fun k => show (Pst.tally (es.take k)).length ≤ 4611686018427387904 by have := Pst.tally_length (es.take k); rw [List.length_take] at this; omega)
  unfold Ev.val at CM
  have C0 := Lib.hid (((Blk.new w Ck.zero.cells 23).alloc (.map #[] 0)).alloc (.cells (Pst.tcells (w.heap.size + 1) Ck.zero) 88))
  have M0 := Lib.hid ((Mm.new (w.alloc (.cells Ck.zero.cells 23))).alloc (.cells (Pst.tcells (w.heap.size + 1) Ck.zero) 88))
  have T0 := Lib.hid (Blk.new ((w.alloc (.cells Ck.zero.cells 23)).alloc (.map #[] 0)) (Pst.tcells (w.heap.size + 1) Ck.zero) 88)
  have U0 := Lib.hid (show Below w.heap.size w (((w.alloc (.cells Ck.zero.cells 23)).alloc (.map #[] 0)).alloc (.cells (Pst.tcells (w.heap.size + 1) Ck.zero) 88)) from (((Below.refl _ _).alloc (Nat.le_refl _) _).alloc (by simp) _).alloc (by simp; omega) _)
  clear h hl
  go_enter Try.func28, Try.ntmps28
  go_upto_region 2 with (fail)
  refine wp_named (fun W hW => ?_)
  rw [← show W = ((w.alloc (.cells Ck.zero.cells 23)).alloc (.map #[] 0)).alloc (.cells (Pst.tcells (w.heap.size + 1) Ck.zero) 88) from hW] at C0 M0 T0 U0
  simp only [World.size_alloc] at T0 M0
  clear hW hmm
  go_wp2
  go_loopw [10] (fun v wr => ClkRel es w.heap.size w v wr) (fun v _ => n - (intOf v).toNat)
  case atStart => exact ⟨0, Ck.zero, by omega, rfl, Lib.hid Pst.whole_zero, C0, T0, M0, U0⟩
  case round =>
    obtain ⟨k, c, hk, rfl, WC, CC, TT, MM, UU⟩ := hrel
    rw [HL.out] at hk
    clear C0 M0 T0 U0
    have lts := MM.out.lt
    have ltt := TT.out.lt
    by_cases h5 : k < n
    · have h5' : (k : Int) < n := by omega
      obtain ⟨b, off, rfl⟩ := AD.out (by omega)
      obtain ⟨e0, e1, e2, e3, e4, e5, e6, e7, e8, e9, e10, e11⟩ := ev_at (SL.out wr UU.out) h5
      have KT := Lib.hid (Pst.tally_take (es := es) (k := k) (by rw [HL.out]; exact h5))
      have LK := Lib.hid (LT.out k)
      generalize hg : Ev.nth es k = e at e0 e1 e2 e3 e4 e5 e6 e7 e8 e9 e10 e11 KT
      have C2 := Lib.hid (fun w => CM.out e w)
      clear hg CM HE
      go_upto_region 5 with (fail)
      refine wp_named (fun W5 hW => ?_)
      have KA := Lib.hid (show Blk W5 wr.heap.size e.cells 51 by rw [hW]; exact Blk.new wr e.cells 51)
      have CC5 := Lib.hid (show Blk W5 w.heap.size Ck.zero.cells 23 by rw [hW]; exact CC.out.alloc _)
      have T5 := Lib.hid (show Blk W5 (w.heap.size + 1 + 1) (Pst.tcells (w.heap.size + 1) c) 88 by rw [hW]; exact TT.out.alloc _)
      have M5 := Lib.hid (show Mm W5 (w.heap.size + 1) (Pst.mks (Pst.tally (es.take k))) by rw [hW]; exact MM.out.alloc _)
      have U5 := Lib.hid (show Below w.heap.size w W5 by rw [hW]; exact UU.out.alloc (by omega) _)
      clear hW e0 e1 e2 e3 e4 e5 e6 e7 e8 e9 e10 e11 TT MM UU CC
      obtain ⟨a0, a1, a2, a3, a4, a5, a6, a7, a8, a9, a10, a11⟩ := KA.out.ev12
      go_wp2_with fail
      refine (C2.out _).mono ?_
      rintro x w7 ⟨rfl, hu⟩
      have CC7 := Lib.hid (CC5.out.up hu)
      have T7 := Lib.hid (T5.out.up hu)
      have M7 := Lib.hid (M5.out.up hu)
      have U7 := Lib.hid (show Below w.heap.size w w7 from U5.out.trans (hu.mono U5.out.size))
      clear hu C2 KA T5 M5 U5 CC5 a0 a1 a2 a3 a4 a5 a6 a7 a8 a9 a10 a11
      go_wp2_with fail
      refine (add_any (w.heap.size + 1 + 1) (w.heap.size + 1) (w.heap.size + 1) e.mk' c (Pst.tally (es.take k)) w7 T7.out M7.out WC.out (Nat.le_succ _) (Nat.le_refl _) (by omega) LK.out).mono ?_
      rintro x w8 ⟨rfl, c', hw', ht, hm, hb⟩
      rw [← KT.out] at hw' hm
      have W8 := Lib.hid hw'
      have T8 := Lib.hid ht
      have M8 := Lib.hid hm
      have U8 := Lib.hid (U7.out.trans (hb.mono (Nat.le_succ w.heap.size)))
      have CC8 := Lib.hid (show Blk w8 w.heap.size Ck.zero.cells 23 by unfold Blk; rw [hb.block _ (Nat.lt_succ_self _)]; exact CC7.out)
      clear hw' ht hm hb T7 M7 U7 CC7
      go_wp2
      go_roundw
      case rel => exact ⟨k + 1, c', by rw [HL.out]; omega, by go_num, W8, CC8, T8, M8, U8⟩
      case measure => simp [intOf]; omega
    · obtain rfl : k = n := by omega
      have WE := Lib.hid (show Pst.Whole (Pst.tally es) c by have := WC.out; rwa [HE.out] at this)
      obtain ⟨t0, t1, t2, t3, t4, t5⟩ := TT.out.tl
      obtain ⟨z0, z1, z2, z3, z4⟩ := CC.out.ck
      have fr := CC.out.frozen
      have f0 := fr 0; have f1 := fr 1; have f2 := fr 2; have f3 := fr 3; have f4 := fr 4
      clear fr CM
      go_wp2
      have K := clk_set5 CC.out c
      have B := ((((UU.out.setCell (p := ⟨w.heap.size, 0, none⟩) (by simp) (.int .i64 c.c0)).setCell (p := ⟨w.heap.size, 1, none⟩) (by simp) (.int .i64 c.c1)).setCell (p := ⟨w.heap.size, 2, none⟩) (by simp) (.int .i64 c.c2)).setCell (p := ⟨w.heap.size, 3, none⟩) (by simp) (.int .i64 c.c3)).setCell (p := ⟨w.heap.size, 4, none⟩) (by simp) (.int .i64 c.c4)
      generalize World.setCell _ ⟨w.heap.size, 4, none⟩ (.int .i64 c.c4) = W3 at *
      obtain ⟨k0, k1, k2, k3, k4⟩ := K.ck
      exact bodyPost_ret (v := c.val) (by simp [results, Try.results28, go_sem, Ck.val, k0, k1, k2, k3, k4]) rfl ⟨⟨c, rfl, WE.out⟩, B⟩
end Go.Proofs.Ythgfbnkggdlokaa
