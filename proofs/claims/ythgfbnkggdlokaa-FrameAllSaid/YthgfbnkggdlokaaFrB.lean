/-
  The bytes of a frame; the walks of what puts them; a row of events.
-/
import Derived.Test.YthgfbnkggdlokaaFrA
import Derived.Test.YthgfbnkggdlokaaEvY
import Derived.Test.YthgfbnkggdlokaaOpen
import Derived.Test.YthgfbnkggdlokaaEvC
import Derived.Test.YthgfbnkggdlokaaSeal
import Derived.Test.YthgfbnkggdlokaaLexB

/-! The bytes of a frame, plain; the walks of what puts the fields of each kind. -/
namespace Go.Proofs.Ythgfbnkggdlokaa
open Go.RowKit
set_option maxRecDepth 100000

namespace Fr
def cks (c : Ck) : Nat → List Nat
  | 0 => []
  | i + 1 => cks c i ++ Pl.put (c.get i).toNat
def evs : List Ev → List Nat
  | [] => []
  | e :: es => Ev.bytes e ++ evs es
def pay (f : Fr) : List Nat := if f.k = 2 then Pl.put f.u.toNat else if f.k = 3 ∨ f.k = 5 then cks f.c 5 else f.es.length :: evs f.es
def body (f : Fr) : List Nat := f.k.toNat :: f.r.toNat :: pay f
def raw (f : Fr) : List Nat := Pl.put (body f).length ++ body f
def bytes (f : Fr) : List Nat := Cr.sealed (raw f)
def out (f : Fr) : List Nat := if may f then bytes f else []
theorem evs_append (xs ys : List Ev) : evs (xs ++ ys) = evs xs ++ evs ys := by
  induction xs with
  | nil => rfl
  | cons e es ih => rw [List.cons_append, evs, ih, evs, List.append_assoc]
theorem evs_take {es : List Ev} {k : Nat} (h : k < es.length) : evs (es.take (k + 1)) = evs (es.take k) ++ Ev.bytes (Ev.nth es k) := by
  have e : Ev.nth es k = es[k] := by simp [Ev.nth, h]
  rw [List.take_succ_eq_append_getElem h, evs_append, e]
  simp [evs]
theorem evs_len {es : List Ev} (h : ∀ e ∈ es, Ev.Good e) : (evs es).length ≤ 44 * es.length := by
  induction es with
  | nil => simp [evs]
  | cons e es ih =>
    have h1 := Ev.bytes_len (h e (by simp))
    have h2 := ih fun x hx => h x (by simp [hx])
    rw [evs, List.length_append, List.length_cons]; omega
theorem cks_le (c : Ck) : ∀ i, (cks c i).length ≤ 11 * i
  | 0 => by simp [cks]
  | i + 1 => by
    have h1 := cks_le c i
    have h2 := Pl.put_len (c.get i).toNat
    rw [cks, List.length_append]; omega
theorem nth_mem {es : List Ev} {k : Nat} (h : k < es.length) : Ev.nth es k ∈ es := by
  have e : Ev.nth es k = es[k] := by simp [Ev.nth, h]
  rw [e]; exact List.getElem_mem h
end Fr

theorem putUpto_any (f : Fr) (s : Value) (w : World) (h0 : 0 ≤ f.u) (h1 : f.u ≤ 1048576) :
    Calls Try.prog 76 #[f.val s] w (RetBytes w (Pl.put f.u.toNat)) := by
  obtain ⟨k, r, u, c, es⟩ := f
  simp only at h0 h1
  obtain ⟨m, rfl⟩ : ∃ m : Nat, u = m := ⟨u.toNat, by omega⟩
  have CP := Lib.hid (fun w => put_any m w (by omega))
  have U0 := Lib.hid (show Lex.Up w (w.alloc (.cells (Fr.cells ⟨k, r, m, c, es⟩ s) 26)) from (Below.refl w.heap.size w).alloc (Nat.le_refl _) _)
  have wm : IntKind.u64.wrap (m : Int) = m := by rw [IntKind.wrap_u64]; omega
  unfold Fr.val
  simp only
  go_enter Try.func76, Try.ntmps76
  go_wp2_with fail
  refine (CP.out _).mono ?_
  rintro x w1 ⟨A, cap, rfl, hown, hb⟩
  have U1 := Lib.hid (U0.out.trans hb)
  have O1 := Lib.hid (own_mono (B' := w.heap.size) hown (by simp))
  clear hown hb wm
  go_wp2
  go_ret
  exact ⟨A, cap, rfl, O1.out, U1.out⟩

def PutCkRel (B : Nat) (W : World) (c : Ck) (v3 v8 : Value) (wr : World) : Prop :=
  ∃ (i : Nat) (xs : List Nat), i ≤ 5 ∧ v8 = .int .i64 i ∧ Hid (xs = Fr.cks c i) ∧ Hid (wr.ownsRow B 5 1 v3 xs.length (xs.map bv)) ∧ Hid (Below B W wr)
set_option maxHeartbeats 1600000 in
theorem putClock_any (f : Fr) (s : Value) (w : World) (h : ∀ j, j < 5 → 0 ≤ f.c.get j ∧ f.c.get j ≤ 1048576) :
    Calls Try.prog 70 #[f.val s] w (RetBytes w (Fr.cks f.c 5)) := by
  have CP := Lib.hid (fun m w h => put_any m w h)
  have U0 := Lib.hid (show Lex.Up w (w.alloc (.cells (f.cells s) 26)) from (Below.refl w.heap.size w).alloc (Nat.le_refl _) _)
  have HC := Lib.hid h
  have HX := Lib.hid (show ∀ j, j < 5 → ∀ w, (Instr.index 23 (.agg #[.int .i64 f.c.c0, .int .i64 f.c.c1, .int .i64 f.c.c2, .int .i64 f.c.c3, .int .i64 f.c.c4]) (.int .i64 (j : Nat))).run Try.prog w = .ok (.int .i64 (f.c.get j)) w from fun j hj w => by
    match j, hj with
    | 0, _ | 1, _ | 2, _ | 3, _ | 4, _ => go_simp; rfl)
  clear h
  have HZ0 := Lib.hid (show w.heap.size + 1 ≤ (w.alloc (.cells (f.cells s) 26)).heap.size by simp)
  unfold Fr.val
  go_enter Try.func70, Try.ntmps70
  go_wp2
  refine wp_named (fun W hW => ?_)
  have hW' : W = w.alloc (.cells (f.cells s) 26) := hW
  rw [← hW'] at HZ0 U0
  have HZ := HZ0
  clear hW hW' HZ0
  go_loopw [3, 8] (fun v3 v8 wr => PutCkRel (w.heap.size + 1) W f.c v3 v8 wr) (fun _ v8 _ => 5 - (intOf v8).toNat)
  case atStart => exact ⟨0, [], by omega, rfl, Lib.hid (by simp [Fr.cks]), Lib.hid (World.ownsRow_nil _ _ _ _), Lib.hid (Below.refl _ _)⟩
  case round =>
    obtain ⟨i, xs, hi, rfl, HXS, O1, U1⟩ := hrel
    have LX : xs.length ≤ 55 := by have := Fr.cks_le f.c i; rw [HXS.out]; omega
    by_cases h5 : i < 5
    · have h5' : (i : Int) < 5 := by omega
      have hx := HX.out i h5
      have HCi := HC.out i h5
      have HOT := Lib.hid (show Fr.cks f.c (i + 1) = Fr.cks f.c i ++ Pl.put (f.c.get i).toNat from rfl)
      obtain ⟨m, hm⟩ : ∃ m : Nat, f.c.get i = m := ⟨(f.c.get i).toNat, by omega⟩
      rw [hm] at hx HOT HCi
      clear hm
      have wm : IntKind.u64.wrap (m : Int) = m := by rw [IntKind.wrap_u64]; omega
      go_wp2_with fail
      clear hx
      refine (CP.out m _ ((by omega))).mono ?_
      rintro x w6 ⟨A, cap, rfl, hown, hb⟩
      have S2 := Lib.hid (slc_of_own hown (Pl.put_lt ((by omega))))
      have U2 := Lib.hid (U1.out.trans (hb.mono (Nat.le_trans HZ.out U1.out.size)))
      have O2 := Lib.hid (own_up O1.out hb)
      have Z2 : w.heap.size + 1 ≤ w6.heap.size := Nat.le_trans HZ.out U2.out.size
      have PL := Pl.put_len m
      have OB := Lib.hid (own_base O1.out)
      clear hown hb
      generalize hys : Pl.put m = ys at *
      go_wp2_with (at_builtin; refine wpList_append_slc rfl _ _ rfl (w.heap.size + 1) _ xs.length xs rfl O2.out A ys.length cap ys rfl S2.out (by omega) Z2 ?_)
      intro v7 w7 hown3 hg3
      have U7 := Lib.hid (Below.grown U2.out hg3 Z2 OB.out)
      have O7 := Lib.hid (show w7.ownsRow (w.heap.size + 1) 5 1 v7 (xs ++ ys).length ((xs ++ ys).map bv) by simpa using hown3)
      clear hown3 hg3 S2 U2 O2 Z2 OB
      subst hys
      go_wp2
      go_roundw
      case rel => exact ⟨i + 1, xs ++ Pl.put m, by omega, by go_num, Lib.hid (by rw [HOT.out, HXS.out]; simp), O7, U7⟩
      case measure => simp [intOf]; omega
    · obtain rfl : i = 5 := by omega
      go_wp2
      go_ret
      rw [← HXS.out]
      exact ret_own O1.out (Nat.le_succ _) (Below.trans U0.out (Below.mono U1.out (Nat.le_succ _)))

def PutEsRel (B : Nat) (W : World) (n : Nat) (es : List Ev) (v3 v16 : Value) (wr : World) : Prop :=
  ∃ (i : Nat) (xs : List Nat), i ≤ n ∧ v16 = .int .i64 i ∧ Hid (xs = n :: Fr.evs (es.take i)) ∧ Hid (wr.ownsRow B 5 1 v3 xs.length (xs.map bv)) ∧ Hid (Below B W wr)
set_option maxHeartbeats 1600000 in
theorem putEvents_any (f : Fr) (A : Option Addr) (n cap : Nat) (w : World) (h : EvSl w A n cap f.es) (hn : n ≤ 20) (hg : ∀ e ∈ f.es, Ev.Good e) :
    Calls Try.prog 73 #[f.val (.slice A n cap)] w (RetBytes w (n :: Fr.evs f.es)) := by
  have CP := Lib.hid (fun e w => evput_any e w)
  unfold Ev.val at CP
  have U0 := Lib.hid (show Lex.Up w ((w.alloc (.cells (f.cells (.slice A n cap)) 26)).alloc (.cells #[.int .u8 (n : Int)] 5)) from up_blk (up_blk (Lex.Up.refl w)))
  have KA := Lib.hid ((Blk.new w (f.cells (.slice A n cap)) 26).alloc (.cells #[.int .u8 (n : Int)] 5))
  have OA := Lib.hid (own_new (w.alloc (.cells (f.cells (.slice A n cap)) 26)) (w.heap.size + 1) [n] (by simp) (by simp))
  have SL := Lib.hid (fun w' (hu : Lex.Up w w') => EvSl.up h hu)
  have NL := Lib.hid h.len
  have AD := Lib.hid h.addr
  have HG := Lib.hid hg
  have HLN := Lib.hid (show ∀ k, (Fr.evs (f.es.take k)).length ≤ 44 * 20 from fun k => by
    have h1 := Fr.evs_len (es := f.es.take k) (fun e he => hg e (List.mem_of_mem_take he))
    rw [List.length_take] at h1
    have := h.len
    omega)
  have HZ0 := Lib.hid (show w.heap.size + 1 ≤ ((w.alloc (.cells (f.cells (.slice A n cap)) 26)).alloc (.cells #[.int .u8 (n : Int)] 5)).heap.size by simp)
  have wn : IntKind.u8.wrap (n : Int) = n := by rw [IntKind.wrap_u8]; omega
  have e1 : ([n].map bv).toArray = #[.int .u8 (n : Int)] := rfl
  rw [e1] at OA
  clear h hg e1
  unfold Fr.val
  go_enter Try.func73, Try.ntmps73
  go_upto_region 2 with (fail)
  refine wp_named (fun W hW => ?_)
  have hW' : W = (w.alloc (.cells (f.cells (.slice A n cap)) 26)).alloc (.cells #[.int .u8 (n : Int)] 5) := hW
  rw [← hW'] at HZ0 U0 KA OA
  have HZ := HZ0
  simp only [World.size_alloc] at OA
  clear hW hW' HZ0
  obtain ⟨a0, a1, a2, a3, a4, a5, a6, a7, a8⟩ := KA.out.fr
  go_wp2
  clear a0 a1 a2 a3 a4 a5 a6 a7 a8 wn
  go_loopw [3, 16] (fun v3 v16 wr => PutEsRel (w.heap.size + 1) W n f.es v3 v16 wr) (fun _ v16 _ => n - (intOf v16).toNat)
  case atStart => exact ⟨0, [n], by omega, rfl, Lib.hid (by simp [Fr.evs]), OA, Lib.hid (Below.refl _ _)⟩
  case round =>
    obtain ⟨i, xs, hi, rfl, HXS, O1, U1⟩ := hrel
    have LX : xs.length ≤ 881 := by have := HLN.out i; rw [HXS.out, List.length_cons]; omega
    clear OA
    by_cases h5 : i < n
    · have h5' : (i : Int) < n := by omega
      obtain ⟨b, off, rfl⟩ := AD.out (by omega)
      obtain ⟨e0, e1, e2, e3, e4, e5, e6, e7, e8, e9, e10, e11⟩ := ev_at (SL.out wr (Below.trans U0.out (Below.mono U1.out (Nat.le_succ _)))) h5
      have GE := Lib.hid (HG.out _ (Fr.nth_mem (k := i) (by rw [NL.out]; exact h5)))
      have HOT := Lib.hid (Fr.evs_take (es := f.es) (k := i) (by rw [NL.out]; exact h5))
      generalize Ev.nth f.es i = e at e0 e1 e2 e3 e4 e5 e6 e7 e8 e9 e10 e11 GE HOT
      have UA := Lib.hid (show Below (w.heap.size + 1) W (wr.alloc (.cells e.cells 51)) from U1.out.alloc (Nat.le_trans HZ.out U1.out.size) _)
      have OA := Lib.hid (own_up O1.out (up_blk (cs := e.cells) (t := 51) (Lex.Up.refl wr)))
      have HL : (Ev.bytes e).length ≤ 44 := Ev.bytes_len GE.out
      have HLT := Lib.hid (Ev.bytes_lt GE.out)
      go_wp2_with fail
      refine (CP.out e _).mono ?_
      rintro x w6 ⟨v, rfl, hown, hb⟩
      rw [Ev.out_good GE.out] at hown
      rw [(Ev.good_iff e).2 GE.out]
      obtain ⟨A6, cap6, rfl, hs6⟩ := slc_of_own2 hown HLT.out
      have S6 := Lib.hid hs6
      have U6 := Lib.hid (UA.out.trans (hb.mono (Nat.le_trans HZ.out UA.out.size)))
      have O6 := Lib.hid (own_up OA.out hb)
      have Z6 : w.heap.size + 1 ≤ w6.heap.size := Nat.le_trans HZ.out U6.out.size
      have OB := Lib.hid (own_base OA.out)
      clear hown hb hs6 e0 e1 e2 e3 e4 e5 e6 e7 e8 e9 e10 e11 UA OA GE HLT
      generalize Ev.bytes e = ys at *
      go_wp2_with (at_builtin; refine wpList_append_slc rfl _ _ rfl (w.heap.size + 1) _ xs.length xs rfl O6.out A6 ys.length cap6 ys rfl S6.out (by omega) Z6 ?_)
      intro v7 w7 hown7 hg7
      have U7 := Lib.hid (Below.grown U6.out hg7 Z6 OB.out)
      have O7 := Lib.hid (show w7.ownsRow (w.heap.size + 1) 5 1 v7 (xs ++ ys).length ((xs ++ ys).map bv) by simpa using hown7)
      clear hown7 hg7 S6 U6 O6 Z6 OB
      go_wp2
      go_roundw
      case rel => exact ⟨i + 1, xs ++ ys, by omega, by go_num, Lib.hid (by rw [HOT.out, HXS.out]; simp), O7, U7⟩
      case measure => simp [intOf]; omega
    · obtain rfl : i = n := by omega
      go_wp2
      go_ret
      have e1 : i :: Fr.evs f.es = xs := by rw [HXS.out, ← NL.out, List.take_length]
      rw [e1]
      exact ret_own O1.out (Nat.le_succ _) (Below.trans U0.out (Below.mono U1.out (Nat.le_succ _)))
end Go.Proofs.Ythgfbnkggdlokaa

/-! The walk of frame.Put. -/
namespace Go.Proofs.Ythgfbnkggdlokaa
open Go.RowKit
set_option maxRecDepth 100000

theorem Pl.put_pos (n : Nat) : 0 < (Pl.put n).length := by
  unfold Pl.put
  rw [Pl.putF]
  split <;> simp
/-- What holds of a frame that may be. -/
structure Fr.Good (f : Fr) : Prop where
  r0 : 0 ≤ f.r
  r5 : f.r < 5
  k : f.k = 1 ∨ f.k = 2 ∨ f.k = 3 ∨ f.k = 4 ∨ f.k = 5
  ev : f.k = 1 ∨ f.k = 4 → f.u = 0 ∧ f.c = Ck.zero ∧ f.es.length ≤ 20 ∧ ∀ e ∈ f.es, Ev.Good e
  push : f.k = 1 → 0 < f.es.length ∧ ∀ e ∈ f.es, e.r = f.r
  up : f.k = 2 → 0 ≤ f.u ∧ f.u ≤ 1048576 ∧ f.c = Ck.zero ∧ f.es = []
  ck : f.k = 3 ∨ f.k = 5 → f.u = 0 ∧ (∀ j, j < 5 → 0 ≤ f.c.get j ∧ f.c.get j ≤ 1048576) ∧ f.es = []
namespace Fr
theorem mayE_iff (f : Fr) : mayE f = true ↔ f.u = 0 ∧ f.c = Ck.zero ∧ f.es.length ≤ 20 ∧ ∀ e ∈ f.es, Ev.Good e := by
  simp only [mayE, noc, Bool.and_eq_true, decide_eq_true_eq, List.all_eq_true, Ev.good_iff, and_assoc]
theorem mayP_iff (f : Fr) : mayP f = true ↔ (∀ e ∈ f.es, e.r = f.r) ∧ 0 < f.es.length ∧ mayE f = true := by
  simp only [mayP, Bool.and_eq_true, decide_eq_true_eq, List.all_eq_true, and_assoc]
theorem mayU_iff (f : Fr) : mayU f = true ↔ (0 ≤ f.u ∧ f.u ≤ 1048576) ∧ f.c = Ck.zero ∧ f.es = [] := by
  simp only [mayU, cnt, noc, Bool.and_eq_true, decide_eq_true_eq, and_assoc, List.length_eq_zero_iff]
theorem mayC_iff (f : Fr) : mayC f = true ↔ (∀ j, j < 5 → 0 ≤ f.c.get j ∧ f.c.get j ≤ 1048576) ∧ f.u = 0 ∧ f.es = [] := by
  simp only [mayC, Bool.and_eq_true, decide_eq_true_eq, Ev.seen_iff, and_assoc, List.length_eq_zero_iff]
theorem may_iff (f : Fr) : may f = true ↔ Good f := by
  constructor
  · intro h
    simp only [may, Bool.and_eq_true, decide_eq_true_eq] at h
    obtain ⟨⟨h0, h5⟩, hk⟩ := h
    unfold mayK at hk
    by_cases k1 : f.k = 1
    · rw [if_pos k1, mayP_iff, mayE_iff] at hk
      exact ⟨h0, h5, .inl k1, fun _ => hk.2.2, fun _ => ⟨hk.2.1, hk.1⟩, fun h => by omega, fun h => by omega⟩
    rw [if_neg k1] at hk
    by_cases k2 : f.k = 2
    · rw [if_pos k2, mayU_iff] at hk
      exact ⟨h0, h5, .inr (.inl k2), fun h => by omega, fun h => by omega, fun _ => ⟨hk.1.1, hk.1.2, hk.2⟩, fun h => by omega⟩
    rw [if_neg k2] at hk
    by_cases k3 : f.k = 3
    · rw [if_pos k3, mayC_iff] at hk
      exact ⟨h0, h5, .inr (.inr (.inl k3)), fun h => by omega, fun h => by omega, fun h => by omega, fun _ => ⟨hk.2.1, hk.1, hk.2.2⟩⟩
    rw [if_neg k3] at hk
    by_cases k4 : f.k = 4
    · rw [if_pos k4, mayE_iff] at hk
      exact ⟨h0, h5, .inr (.inr (.inr (.inl k4))), fun _ => hk, fun h => by omega, fun h => by omega, fun h => by omega⟩
    rw [if_neg k4] at hk
    by_cases k5 : f.k = 5
    · rw [if_pos k5, mayC_iff] at hk
      exact ⟨h0, h5, .inr (.inr (.inr (.inr k5))), fun h => by omega, fun h => by omega, fun h => by omega, fun _ => ⟨hk.2.1, hk.1, hk.2.2⟩⟩
    rw [if_neg k5] at hk
    cases hk
  · intro g
    simp only [may, Bool.and_eq_true, decide_eq_true_eq]
    refine ⟨⟨g.r0, g.r5⟩, ?_⟩
    unfold mayK
    rcases g.k with k | k | k | k | k
    · rw [if_pos k, mayP_iff, mayE_iff]; exact ⟨(g.push k).2, (g.push k).1, g.ev (.inl k)⟩
    · rw [if_neg (by omega), if_pos k, mayU_iff]; have := g.up k; exact ⟨⟨this.1, this.2.1⟩, this.2.2⟩
    · rw [if_neg (by omega), if_neg (by omega), if_pos k, mayC_iff]; have := g.ck (.inl k); exact ⟨this.2.1, this.1, this.2.2⟩
    · rw [if_neg (by omega), if_neg (by omega), if_neg (by omega), if_pos k, mayE_iff]; exact g.ev (.inr k)
    · rw [if_neg (by omega), if_neg (by omega), if_neg (by omega), if_neg (by omega), if_pos k, mayC_iff]; have := g.ck (.inr k); exact ⟨this.2.1, this.1, this.2.2⟩
theorem cks_lt {c : Ck} (h : ∀ j, j < 5 → 0 ≤ c.get j ∧ c.get j ≤ 1048576) : ∀ i, i ≤ 5 → Bts (cks c i)
  | 0, _ => fun x hx => by cases hx
  | i + 1, hi => fun x hx => by
    rw [cks, List.mem_append] at hx
    rcases hx with hx | hx
    · exact cks_lt h i (by omega) x hx
    · have := h i (by omega)
      exact Pl.put_lt (by omega) x hx
theorem evs_lt {es : List Ev} (h : ∀ e ∈ es, Ev.Good e) : Bts (evs es) := by
  induction es with
  | nil => intro x hx; cases hx
  | cons e es ih =>
    intro x hx
    rw [evs, List.mem_append] at hx
    rcases hx with hx | hx
    · exact Ev.bytes_lt (h e (by simp)) x hx
    · exact ih (fun y hy => h y (by simp [hy])) x hx
theorem pay_lt {f : Fr} (g : Good f) : Bts (pay f) := by
  unfold pay
  split
  · rename_i h
    have := g.up h
    exact fun x hx => Pl.put_lt (by omega) x hx
  · split
    · rename_i _ h
      exact cks_lt (g.ck h).2.1 5 (Nat.le_refl _)
    · rename_i h2 h3
      have hk : f.k = 1 ∨ f.k = 4 := by rcases g.k with k | k | k | k | k <;> omega
      have := g.ev hk
      intro x hx
      rcases List.mem_cons.1 hx with rfl | hx
      · omega
      · exact evs_lt this.2.2.2 x hx
theorem pay_len {f : Fr} (g : Good f) : (pay f).length ≤ 881 := by
  unfold pay
  split
  · have := Pl.put_len f.u.toNat; omega
  · split
    · have := cks_le f.c 5; omega
    · rename_i h2 h3
      have hk : f.k = 1 ∨ f.k = 4 := by rcases g.k with k | k | k | k | k <;> omega
      have h1 := g.ev hk
      have := evs_len h1.2.2.2
      rw [List.length_cons]; omega
theorem pay_pos (f : Fr) : 0 < (pay f).length := by
  unfold pay
  split
  · exact Pl.put_pos _
  · split
    · simp only [cks, List.length_append]; have := Pl.put_pos (f.c.get 4).toNat; omega
    · simp
theorem body_lt {f : Fr} (g : Good f) : Bts (body f) := fun x hx => by
  unfold body at hx
  have := g.r0; have := g.r5
  rcases List.mem_cons.1 hx with rfl | hx
  · rcases g.k with k | k | k | k | k <;> omega
  rcases List.mem_cons.1 hx with rfl | hx
  · omega
  · exact pay_lt g x hx
end Fr
/-- The function that puts the fields of a frame that may be. -/
theorem put_kind {f : Fr} {A : Option Addr} {n cap : Nat} {w : World} (h : EvSl w A n cap f.es) (g : Fr.Good f) :
    ∃ p, Pt.put f.k = .func (.func p) #[] #[] ∧ (∀ args w', (callFunc p args).run Try.prog w' = .ok (.enter p args) w') ∧ ∀ w', Lex.Up w w' → Calls Try.prog p #[f.val (.slice A n cap)] w' (RetBytes w' (Fr.pay f)) := by
  have hl := h.len
  have ee := enters (P := Try.prog) Try.func73 (by kernel_rfl) rfl
  have eu := enters (P := Try.prog) Try.func76 (by kernel_rfl) rfl
  have ec := enters (P := Try.prog) Try.func70 (by kernel_rfl) rfl
  have E : f.k = 1 ∨ f.k = 4 → ∀ w', Lex.Up w w' → Calls Try.prog 73 #[f.val (.slice A n cap)] w' (RetBytes w' (Fr.pay f)) := fun hk w' hu => by
    have := g.ev hk
    have := putEvents_any f A n cap w' (h.up hu) (by omega) this.2.2.2
    have e : Fr.pay f = n :: Fr.evs f.es := by unfold Fr.pay; rw [if_neg (by omega), if_neg (by omega), hl]
    rw [e]; exact this
  have C : f.k = 3 ∨ f.k = 5 → ∀ w', Lex.Up w w' → Calls Try.prog 70 #[f.val (.slice A n cap)] w' (RetBytes w' (Fr.pay f)) := fun hk w' hu => by
    have := putClock_any f (.slice A n cap) w' (g.ck hk).2.1
    have e : Fr.pay f = Fr.cks f.c 5 := by unfold Fr.pay; rw [if_neg (by omega), if_pos hk]
    rw [e]; exact this
  rcases g.k with k | k | k | k | k
  · exact ⟨_, by rw [k]; rfl, ee, E (.inl k)⟩
  · refine ⟨_, by rw [k]; rfl, eu, fun w' hu => ?_⟩
    have := g.up k
    have e : Fr.pay f = Pl.put f.u.toNat := by unfold Fr.pay; rw [if_pos k]
    rw [e]
    exact putUpto_any f (.slice A n cap) w' this.1 this.2.1
  · exact ⟨_, by rw [k]; rfl, ec, C (.inl k)⟩
  · exact ⟨_, by rw [k]; rfl, ee, E (.inr k)⟩
  · exact ⟨_, by rw [k]; rfl, ec, C (.inr k)⟩
end Go.Proofs.Ythgfbnkggdlokaa

/-! A frame stored whole; a row of events of the call's own. -/
namespace Go.Proofs.Ythgfbnkggdlokaa
open Go.RowKit
set_option maxRecDepth 100000

theorem ES12 : Elem Try.prog 24 51 Ev.zero.val 12 112 := ⟨Try.underlying24, by kernel_rfl, rfl, by decide⟩
def put9 (w : World) (b : Nat) (f : Fr) (s : Value) : World :=
  ((((((((w.setCell ⟨b, 0, none⟩ (.int .i64 f.k)).setCell ⟨b, 1, none⟩ (.int .i64 f.r)).setCell ⟨b, 2, none⟩ (.int .i64 f.u)).setCell ⟨b, 3, none⟩ (.int .i64 f.c.c0)).setCell ⟨b, 4, none⟩ (.int .i64 f.c.c1)).setCell ⟨b, 5, none⟩ (.int .i64 f.c.c2)).setCell ⟨b, 6, none⟩ (.int .i64 f.c.c3)).setCell ⟨b, 7, none⟩ (.int .i64 f.c.c4)).setCell ⟨b, 8, none⟩ s
theorem put9_blk {w : World} {b : Nat} {f0 : Fr} {s0 : Value} {t : TypeId} (h : Blk w b (f0.cells s0) t) (f : Fr) (s : Value) : Blk (put9 w b f s) b (f.cells s) t := by
  have := ((((((((h.set 0 (.int .i64 f.k)).set 1 (.int .i64 f.r)).set 2 (.int .i64 f.u)).set 3 (.int .i64 f.c.c0)).set 4 (.int .i64 f.c.c1)).set 5 (.int .i64 f.c.c2)).set 6 (.int .i64 f.c.c3)).set 7 (.int .i64 f.c.c4)).set 8 s
  simp only [Fr.cells, List.setIfInBounds_toArray, List.set_cons_zero, List.set_cons_succ] at this
  exact this
theorem put9_below {w0 w : World} {B b : Nat} (h : Below B w0 w) (hb : B ≤ b) (f : Fr) (s : Value) : Below B w0 (put9 w b f s) := by
  unfold put9
  iterate 9 refine Below.setCell ?_ hb _
  exact h
theorem put9_by (w : World) (b : Nat) (f : Fr) (s : Value) : w.grownBy (put9 w b f s) (some b) := by
  unfold put9
  exact ((((((((by_set _ ⟨b, 0, none⟩ _).trans (by_set _ ⟨b, 1, none⟩ _)).trans (by_set _ ⟨b, 2, none⟩ _)).trans (by_set _ ⟨b, 3, none⟩ _)).trans (by_set _ ⟨b, 4, none⟩ _)).trans (by_set _ ⟨b, 5, none⟩ _)).trans (by_set _ ⟨b, 6, none⟩ _)).trans (by_set _ ⟨b, 7, none⟩ _)).trans (by_set _ ⟨b, 8, none⟩ _)
theorem Blk.row {w w' : World} {b B : Nat} {cs : Array Value} {t : TypeId} {v : Value} (h : Blk w b cs t) (hg : w.grownBy w' v.ownBlock) (ho : ∀ k, v.ownBlock = some k → B ≤ k) (hb : b < B) : Blk w' b cs t :=
  h.by_ hg fun e => by have := ho b e; omega
/-- A row of events of the call's own. -/
def OwnE (w : World) (B : Nat) (v : Value) (es : List Ev) : Prop := w.ownsRow B 51 12 v es.length (evc es)
namespace OwnE
variable {w w' : World} {B : Nat} {v : Value} {es : List Ev}
theorem nil (w : World) (B : Nat) : OwnE w B (.slice none 0 0) [] := World.ownsRow_nil _ _ _ _
theorem up (h : OwnE w B v es) (hu : Lex.Up w w') : OwnE w' B v es := own_up h hu
theorem base (h : OwnE w B v es) : ∀ k, v.ownBlock = some k → B ≤ k := own_base h
theorem by_ (h : OwnE w B v es) {b : Nat} (hg : w.grownBy w' (some b)) (hb : b < B) : OwnE w' B v es := by
  refine World.ownsRow.kept h hg ?_
  rcases hv : v.ownBlock with _ | k
  · exact .inl rfl
  · refine .inr fun e => ?_
    have := h.base k hv
    simp at e
    omega
theorem sl (h : OwnE w B v es) : ∃ A cap, v = .slice A es.length cap ∧ EvSl w A es.length cap es := Sl.of_own h
theorem sl_of {A : Option Addr} {n cap : Nat} (h : OwnE w B (.slice A n cap) es) : n = es.length ∧ EvSl w A es.length cap es := by
  obtain ⟨A', cap', e, hs⟩ := h.sl
  injection e with e1 e2 e3
  subst e1 e3
  exact ⟨e2, hs⟩
theorem mono (h : OwnE w B v es) {B' : Nat} (hb : B' ≤ B) : OwnE w B' v es := by
  refine ⟨h.1, ?_⟩
  rcases h.2 with h2 | ⟨g, cap, cur, hv, hg, r⟩
  · exact Or.inl h2
  · exact Or.inr ⟨g, cap, cur, hv, Nat.le_trans hb hg, r⟩
end OwnE
/-- The call returns a frame of which this holds, with its events in a new row. -/
def RetFr (w : World) (P : Fr → Prop) (x : Ending) (w' : World) : Prop :=
  ∃ (g : Fr) (A : Option Addr) (cap : Nat), P g ∧ x = .returned (g.val (.slice A g.es.length cap)) ∧ EvSl w' A g.es.length cap g.es ∧ Below w.heap.size w w'

end Go.Proofs.Ythgfbnkggdlokaa

/-! The walk of frame.Put. -/
namespace Go.Proofs.Ythgfbnkggdlokaa
open Go.RowKit
set_option maxRecDepth 100000

/-- The fact of the map of all parts. -/
def mapFact : Lex.Fact := fun v w => ∃ b, v = .map (some b) ∧ Mp w b Pt.all 5
theorem mapFact_up : Lex.UpC mapFact := fun v w w' hu h => by
  obtain ⟨b, rfl, hm⟩ := h
  exact ⟨b, rfl, hm.up hu⟩
set_option maxHeartbeats 4000000 in
theorem frput_any (f : Fr) (A : Option Addr) (n cap : Nat) (w : World) (h : EvSl w A n cap f.es) :
    Calls Try.prog 12 #[f.val (.slice A n cap)] w fun x w' => ∃ v, x = .returned (.tuple #[v, .int .i64 (if Fr.may f then 0 else 1)]) ∧ w'.ownsRow w.heap.size 5 1 v (Fr.out f).length ((Fr.out f).map bv) ∧ Below w.heap.size w w' := by
  have CM := Lib.hid (fun w h => frmay_any f A n cap w h)
  have CA := Lib.hid (fun w => parts_any w)
  have CP := Lib.hid (fun m w h => put_any m w h)
  have CS := Lib.hid (fun A n cap xs w h hn => seal_any A n cap xs w h hn)
  have U0 := Lib.hid (show Lex.Up w (w.alloc (.cells (f.cells (.slice A n cap)) 26)) from up_blk (Lex.Up.refl w))
  have KA := Lib.hid (Blk.new w (f.cells (.slice A n cap)) 26)
  have SL := Lib.hid (fun w' (hu : Lex.Up w w') => EvSl.up h hu)
  have PK := Lib.hid (fun g => put_kind h (f := f) g)
  have HO := Lib.hid (show Fr.out f = if Fr.may f = true then Fr.bytes f else [] from rfl)
  have HG := Lib.hid (show Fr.may f = true → Fr.Good f from (Fr.may_iff f).1)
  clear h
  generalize hz : Fr.may f = z at *
  clear hz
  unfold Fr.val at *
  go_enter Try.func12, Try.ntmps12
  go_upto_region 1 with (fail)
  refine wp_named (fun W hW => ?_)
  have hW' : W = w.alloc (.cells (f.cells (.slice A n cap)) 26) := hW
  rw [← hW'] at U0 KA
  clear hW hW'
  obtain ⟨a0, a1, a2, a3, a4, a5, a6, a7, a8⟩ := KA.out.fr
  go_wp2_with fail
  clear a0 a1 a2 a3 a4 a5 a6 a7 a8
  refine (CM.out _ (SL.out _ U0.out)).mono ?_
  rintro x w1 ⟨rfl, hb1⟩
  have UW := Lib.hid (show Lex.Up W w1 from hb1)
  clear CM hb1
  cases z
  · rw [if_neg (by simp)] at HO
    go_wp2
    go_ret2
    exact ⟨_, rfl, by rw [HO.out]; exact World.ownsRow_nil _ _ _ _, U0.out.trans UW.out⟩
  rw [if_pos rfl] at HO
  have G := Lib.hid (HG.out rfl)
  obtain ⟨p, hp, ep, hcp⟩ := PK.out G.out
  have CG := Lib.hid hcp
  have KB := Lib.hid (KA.out.up UW.out)
  have UB := Lib.hid (U0.out.trans UW.out)
  have HBL := Lib.hid (Fr.body_lt G.out)
  have HPL := Lib.hid (Fr.pay_lt G.out)
  have HPN := Lib.hid (Fr.pay_len G.out)
  have g0 := G.out.r0
  have g1 : 0 ≤ f.k ∧ f.k < 256 := by rcases G.out.k with k | k | k | k | k <;> omega
  have g2 : f.r < 256 := by have := G.out.r5; omega
  have wk : IntKind.u8.wrap f.k = f.k := by rw [IntKind.wrap_u8]; omega
  have wr : IntKind.u8.wrap f.r = f.r := by rw [IntKind.wrap_u8]; omega
  have e1 : ([f.k.toNat, f.r.toNat].map bv).toArray = #[.int .u8 f.k, .int .u8 f.r] := by
    simp only [bv, List.map_cons, List.map_nil, Int.toNat_of_nonneg g0, Int.toNat_of_nonneg g1.1]
  have HE := Lib.hid e1
  have HB := Lib.hid (show Fr.bytes f = Cr.sealed (Pl.put (Fr.body f).length ++ Fr.body f) from rfl)
  have HY := Lib.hid (show Fr.body f = [f.k.toNat, f.r.toNat] ++ Fr.pay f from rfl)
  clear hcp g0 g1 g2 e1 PK HG SL KA U0 G UW
  have HP0 := Lib.hid (Fr.pay_pos f)
  have HZ := Lib.hid (show w.heap.size + 1 ≤ w1.heap.size from KB.out.lt)
  have FB := Lib.hid (fun w' (h : Lex.Up w1 w') => (KB.out.up h).fr)
  go_wp2
  refine Lex.wp_region_lex (by kernel_rfl) (by kernel_rfl) (by rfl) ?_
  repeat (first | (refine Lex.lex_skip (by rfl) (by rfl) (by rfl) ?_; simp only [Act.put, List.setIfInBounds_toArray, List.set_cons_zero, List.set_cons_succ]) | (refine Lex.lex_pure (c := ?_) (by rfl) (by rfl) (fun w' hC => ?_) (by rfl) ?_; rotate_left 1; (have ⟨b0, b1, b2, b3, b4, b5, b6, b7, b8⟩ := FB.out w' hC; go_simp; rfl); simp only [Act.put, List.setIfInBounds_toArray, List.set_cons_zero, List.set_cons_succ]))
  refine Lex.lex_make (v := fun w => .slice (some ⟨w.heap.size, 0, none⟩) 2 2) (f := fun w => w.alloc (.cells #[.int .u8 f.k, .int .u8 f.r] 5)) 14 (arrFact [f.k.toNat, f.r.toNat]) (by rfl) (by rfl) (by rfl) (arrFact_up _) (fun w' hC => ?_) (fun w' _ => by rw [← HE.out]; exact arr_made w' _) (by rfl) ?_
  · have := hC; clear this; go_simp
  refine Lex.lex_call (f := 39) (args := #[]) 15 mapFact (by rfl) (by rfl) (by rfl) mapFact_up (fun w' => by go_simp) (fun w' hC => (CA.out w').mono fun x w'' hx => by obtain ⟨b, rfl, hm, hu⟩ := hx; exact ⟨_, rfl, hu, b, rfl, hm⟩) (by rfl) ?_
  repeat (first | (refine Lex.lex_skip (by rfl) (by rfl) (by rfl) ?_; simp only [Act.put, List.setIfInBounds_toArray, List.set_cons_zero, List.set_cons_succ]) | (refine Lex.lex_pure (c := ?_) (by rfl) (by rfl) (fun w' hC => ?_) (by rfl) ?_; rotate_left 1; (have ⟨b0, b1, b2, b3, b4, b5, b6, b7, b8⟩ := FB.out w' hC; go_simp; rfl); simp only [Act.put, List.setIfInBounds_toArray, List.set_cons_zero, List.set_cons_succ]))
  refine Lex.lex_of (c := .agg #[Pt.may f.k, .func (.func p) #[] #[], Pt.take f.k]) (t := 15) (R := mapFact) (by rfl) (fun v => by rfl) (fun w' hC v hv => ?_) (by rfl) ?_
  · obtain ⟨b, rfl, hm⟩ := hv
    have LK := Pt.look hm f.k false
    rw [hp] at LK
    go_simp
  simp only [Act.put, List.setIfInBounds_toArray, List.set_cons_zero, List.set_cons_succ]
  repeat (first | (refine Lex.lex_skip (by rfl) (by rfl) (by rfl) ?_; simp only [Act.put, List.setIfInBounds_toArray, List.set_cons_zero, List.set_cons_succ]) | (refine Lex.lex_pure (c := ?_) (by rfl) (by rfl) (fun w' hC => ?_) (by rfl) ?_; rotate_left 1; (have ⟨b0, b1, b2, b3, b4, b5, b6, b7, b8⟩ := FB.out w' hC; go_simp; rfl); simp only [Act.put, List.setIfInBounds_toArray, List.set_cons_zero, List.set_cons_succ]))
  refine Lex.lex_call (f := p) (args := #[f.val (.slice A n cap)]) 21 (slcFact (Fr.pay f)) (by rfl) (by rfl) (by rfl) (slcFact_up _) (fun w' => by unfold Fr.val; go_simp) (fun w' hC => call_slc (CG.out w' (UB.out.trans hC)) HPL.out) (by rfl) ?_
  refine lex_grow (ts := 14) (tx := 21) 22 (w.heap.size + 1) (by rfl) (by rfl) (fun u v => by rfl) (by rfl) (fun u v => ⟨rfl, rfl⟩) HP0.out (by have := HPN.out; simp only [List.length_cons, List.length_nil]; omega) (fun w' hC => Nat.le_trans HZ.out hC.size) (by rfl) ?_
  rw [← HY.out]
  refine Lex.lex_pass 4 (by rfl) (fun v => by rfl) (by rfl) (ownFact_up _ _) (fun v w' => by go_simp) (by rfl) ?_
  refine Lex.lex_nil (fun w2 hC => ?_)
  simp only [Lex.fill]
  intro v4 h4 v22 h22 v21 h21 v15 h15 v14 h14
  clear h22 h21 h15 h14
  have hbl : (Fr.body f).length ≤ 883 := by have := HPN.out; rw [HY.out, List.length_append]; simp only [List.length_cons, List.length_nil]; omega
  have O2 := Lib.hid (show w2.ownsRow (w.heap.size + 1) 5 1 v4 (Fr.body f).length ((Fr.body f).map bv) from h4)
  have U2 := Lib.hid (UB.out.trans hC)
  have HZ2 : w.heap.size + 1 ≤ w2.heap.size := Nat.le_trans HZ.out hC.size
  clear h4 hC FB CG HP0 HPN HY KB UB HE wk wr hp ep
  generalize hm : (Fr.body f).length = m at *
  obtain ⟨A4, cap4, rfl, hs4⟩ := slc_of_own2 O2.out HBL.out
  have S4 := Lib.hid hs4
  have wm : IntKind.u64.wrap (m : Int) = m := by rw [IntKind.wrap_u64]; omega
  clear hs4
  go_wp2_with fail
  refine (CP.out m _ (by omega)).mono ?_
  rintro x w3 ⟨A5, cap5, rfl, hown5, hb5⟩
  have O5 := Lib.hid (own_mono (B' := w.heap.size + 1) hown5 HZ2)
  have U3 := Lib.hid (U2.out.trans hb5)
  have S5 := Lib.hid (S4.out.below hb5)
  have Z3 : w.heap.size + 1 ≤ w3.heap.size := Nat.le_trans HZ2 hb5.size
  have OB := Lib.hid (own_base O5.out)
  have PL := Pl.put_len m
  have PLT := Lib.hid (Pl.put_lt (n := m) (by omega))
  clear hown5 hb5 wm S4
  generalize Pl.put m = ys at *
  have HBF := Lib.hid hm
  clear hm
  generalize Fr.body f = bs at *
  go_wp2_with (at_builtin; refine wpList_append_slc rfl _ _ rfl (w.heap.size + 1) _ ys.length ys rfl O5.out A4 m cap4 bs rfl S5.out (by omega) Z3 ?_)
  intro v6 w6 hown6 hg6
  have U6 := Lib.hid (Below.grown (B := w.heap.size) U3.out hg6 (by omega) (fun k hk => by have := OB.out k hk; omega))
  have O6 : w6.ownsRow (w.heap.size + 1) 5 1 v6 (ys.length + m) ((ys ++ bs).map bv) := by simpa using hown6
  obtain ⟨A6, cap6, rfl, hs6⟩ := slc_of_own2 O6 (fun x hx => (List.mem_append.1 hx).elim (PLT.out x) (HBL.out x))
  have S6 := Lib.hid hs6
  clear hown6 hg6 hs6 O6
  go_wp2_with fail
  refine (CS.out A6 _ cap6 (ys ++ bs) _ S6.out (by omega)).mono ?_
  rintro x w7 ⟨A7, cap7, rfl, hown7, hb7⟩
  rw [← HB.out, ← HO.out] at hown7
  have O7 := Lib.hid (own_mono (B' := w.heap.size) hown7 U6.out.size)
  have e7 : (Fr.out f).length = (Cr.sealed (ys ++ bs)).length := by rw [HO.out, HB.out]
  rw [← e7]
  have U7 := Lib.hid (U6.out.trans (hb7.mono U6.out.size))
  clear hown7 hb7 e7
  go_wp2
  go_ret2
  exact ⟨_, rfl, O7.out, U7.out⟩
end Go.Proofs.Ythgfbnkggdlokaa
