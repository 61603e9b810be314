/-
  The reference of events: its Take, plain, and the walk of it.
-/
import Derived.Test.YthgfbnkggdlokaaRfA

namespace Go.Proofs.Ythgfbnkggdlokaa
open Go.RowKit
set_option maxRecDepth 100000

theorem Blk.byg {w w' : World} {b c : Nat} {cs : Array Value} {t : TypeId} (h : Blk w b cs t) (hg : w.grownBy w' (some c)) (hne : b ≠ c) : Blk w' b cs t := by
  have := hg.block b h.lt (by simpa using hne)
  unfold Blk at *; rw [this]; exact h
/-- The reader stands at s, e is what is read, in the world wr of a call that began in w. -/
def RtS (A : Option Addr) (n cap : Nat) (w : World) (s : Rs) (e : Ev) (wr : World) : Prop :=
  Below w.heap.size w wr ∧ Blk wr (w.heap.size + 1) (s.cells A n cap) 132 ∧ Blk wr (w.heap.size + 1 + 1) e.cells 51 ∧ Blk wr w.heap.size Ev.zero.cells 51 ∧ s.p ≤ n
namespace RtS
variable {A : Option Addr} {n cap : Nat} {w w1 w2 : World} {s s' : Rs} {e e' : Ev} {v : Value} {x : Ending}
theorem call (h : RtS A n cap w s e w1) (hp : RdPost (w.heap.size + 1) A n cap v s' w1 x w2) : RtS A n cap w s' e w2 := by
  obtain ⟨hb, h1, h2, h3, h4⟩ := h
  obtain ⟨_, g, k, l⟩ := hp
  exact ⟨hb.grown g hb.size (fun k hk => by simp at hk; omega), k, h2.byg g (by omega), h3.byg g (by omega), l⟩
theorem put (h : RtS A n cap w s e w1) (j : Nat) (v : Value) (he : e.cells.setIfInBounds j v = e'.cells) : RtS A n cap w s e' (w1.setCell ⟨w.heap.size + 1 + 1, j, none⟩ v) := by
  obtain ⟨hb, h1, h2, h3, h4⟩ := h
  exact ⟨hb.setCell (by simp only; omega) v, h1.other (by simp) v, by rw [← he]; exact h2.set j v, h3.other (by simp only; omega) v, h4⟩
theorem err (h : RtS A n cap w s e w1) (k : Nat) : RtS A n cap w ⟨s.p, k⟩ e (w1.setCell ⟨w.heap.size + 1, 2, none⟩ (.int .i64 (k : Nat))) := by
  obtain ⟨hb, h1, h2, h3, h4⟩ := h
  exact ⟨hb.setCell (by simp) _, h1.set 2 _, h2.other (by simp) _, h3.other (by simp) _, h4⟩
theorem drew (h : RtS A n cap w s e w1) : RtS A n cap w s e w1.drew := by
  obtain ⟨hb, h1, h2, h3, h4⟩ := h
  exact ⟨hb.drew, h1.up (Lex.Up.drew _), h2.up (Lex.Up.drew _), h3.up (Lex.Up.drew _), h4⟩
end RtS
def RtLoop (A : Option Addr) (n cap : Nat) (xs : List Nat) (w : World) (r : Nat) (t3 : Rs) (e3 : Ev) (v : Value) (wr : World) : Prop :=
  ∃ (i : Nat) (c : Ck) (s : Rs), i ≤ 5 ∧ v = .int .i64 i ∧ Hid (Rs.cks xs r t3 i = (c, s)) ∧ Hid (RtS A n cap w s { e3 with c := c } wr)

theorem rt_r {xs : List Nat} {t1 t2 t3 t5 t6 t7 s : Rs} {r m h n6 : Nat} {c : Ck} {key : ByteArray} (H2 : Rs.one xs 0 4 t1 = (r, t2)) (H3 : Rs.num xs 1 1048576 t2 = (m, t3)) (HC : Rs.cks xs r t3 5 = (c, s)) (H5 : Rs.num xs 1 16777216 s = (h, t5)) (H6 : Rs.one xs 1 8 t5 = (n6, t6))
    (H7 : Rs.words xs n6 t6 = (key, t7)) (he : t7.e = 0) : r ≤ 4 := by
  have h6 : t6.e = 0 := Rs.words_e (xs := xs) (m := n6) (by rw [H7]; exact he)
  have h5 : t5.e = 0 := (Rs.one_e (xs := xs) (lo := 1) (hi := 8) (by rw [H6]; exact h6)).1
  have h4 : s.e = 0 := Rs.num_e (xs := xs) (lo := 1) (hi := 16777216) (by rw [H5]; exact h5)
  have h3 : t3.e = 0 := Rs.cks_e (xs := xs) (r := r) (i := 5) (by rw [HC]; exact h4)
  have h2 : t2.e = 0 := Rs.num_e (xs := xs) (lo := 1) (hi := 1048576) (by rw [H3]; exact h3)
  have h1 := (Rs.one_e (xs := xs) (lo := 0) (hi := 4) (s := t1) (by rw [H2]; exact h2)).2
  rw [H2] at h1
  simp only [within, decide_eq_true_eq] at h1
  omega
set_option maxRecDepth 100000 in
set_option maxHeartbeats 8000000 in
set_option linter.unusedSimpArgs false in
theorem rtake6_any (A : Option Addr) (n cap : Nat) (xs : List Nat) (w : World) (h : Slc w A n cap xs) :
    Calls Try.prog 85 #[.slice A n cap] w fun x w' => ∃ (e : Ev) (k z : Nat), x = .returned (.tuple #[e.val, .int .i64 (k : Nat), .int .i64 (z : Nat)]) ∧ k ≤ n ∧ RtRel xs e k z ∧ Below w.heap.size w w' := by
  have SB := Lib.hid (show ∀ w', Below w.heap.size w w' → SlcB (w.heap.size + 1) w' A n cap xs from fun w' hb => ⟨h.below hb, fun h0 x hx => by
    obtain ⟨b', off, e, hbl, _⟩ := h.2.2.2.2 h0
    rw [e] at hx; cases hx; simp only; omega⟩)
  have HX := Lib.hid h.bts
  have CO := Lib.hid (fun lo hi s e w1 (hS : RtS A n cap w s e w1) => rone_any (w.heap.size + 1) A n cap xs lo hi s w1 (SB.out _ hS.1) hS.2.1 hS.2.2.2.2)
  have CN := Lib.hid (fun s e w1 (hS : RtS A n cap w s e w1) => show Calls Try.prog 109 #[.pointer (some ⟨w.heap.size + 1, 0, none⟩), .int .i64 1, .int .i64 1048576] w1 (RdPost (w.heap.size + 1) A n cap (.int .i64 ((Rs.num xs 1 1048576 s).1 : Nat)) (Rs.num xs 1 1048576 s).2 w1) from
    rnum_any (w.heap.size + 1) A n cap xs 1 1048576 s w1 (SB.out _ hS.1) hS.2.1 hS.2.2.2.2 (by omega) (by omega))
  have CC := Lib.hid (fun s e w1 (hS : RtS A n cap w s e w1) => show Calls Try.prog 109 #[.pointer (some ⟨w.heap.size + 1, 0, none⟩), .int .i64 0, .int .i64 1048576] w1 (RdPost (w.heap.size + 1) A n cap (.int .i64 ((Rs.num xs 0 1048576 s).1 : Nat)) (Rs.num xs 0 1048576 s).2 w1) from
    rnum_any (w.heap.size + 1) A n cap xs 0 1048576 s w1 (SB.out _ hS.1) hS.2.1 hS.2.2.2.2 (by omega) (by omega))
  have CH := Lib.hid (fun s e w1 (hS : RtS A n cap w s e w1) => show Calls Try.prog 109 #[.pointer (some ⟨w.heap.size + 1, 0, none⟩), .int .i64 1, .int .i64 16777216] w1 (RdPost (w.heap.size + 1) A n cap (.int .i64 ((Rs.num xs 1 16777216 s).1 : Nat)) (Rs.num xs 1 16777216 s).2 w1) from
    rnum_any (w.heap.size + 1) A n cap xs 1 16777216 s w1 (SB.out _ hS.1) hS.2.1 hS.2.2.2.2 (by omega) (by omega))
  have CW := Lib.hid (fun m s e w1 (hS : RtS A n cap w s e w1) h1 => rwords_any (w.heap.size + 1) A n cap xs m s w1 (SB.out _ hS.1) hS.2.1 hS.2.2.2.2 h1)
  have CK := Lib.hid (fun s w => rkey_any s w)
  have S0 := Lib.hid (show RtS A n cap w ⟨0, 0⟩ Ev.zero (((w.alloc (.cells Ev.zero.cells 51)).alloc (.cells (Rs.cells ⟨0, 0⟩ A n cap) 132)).alloc (.cells Ev.zero.cells 51)) from
    ⟨(((Below.refl w.heap.size w).alloc (Nat.le_refl _) _).alloc (by simp) _).alloc (by simp; omega) _, by have := Blk.new (w.alloc (.cells Ev.zero.cells 51)) (Rs.cells ⟨0, 0⟩ A n cap) 132; simp only [World.size_alloc] at this; exact this.alloc _,
      by have := Blk.new ((w.alloc (.cells Ev.zero.cells 51)).alloc (.cells (Rs.cells ⟨0, 0⟩ A n cap) 132)) Ev.zero.cells 51; simp only [World.size_alloc] at this; exact this,
      ((Blk.new w Ev.zero.cells 51).alloc _).alloc _, Nat.zero_le _⟩)
  have hcap : cap ≤ 9223372036854775807 := h.2.2.1
  have hnc : n ≤ cap := h.2.1
  obtain ⟨W0, hW0⟩ : ∃ W0, W0 = (((w.alloc (.cells Ev.zero.cells 51)).alloc (.cells (Rs.cells ⟨0, 0⟩ A n cap) 132)).alloc (.cells Ev.zero.cells 51)) := ⟨_, rfl⟩
  rw [← hW0] at S0
  clear h SB
  go_enter Try.func85, Try.ntmps85
  go_upto_region 3 with (fail)
  refine wp_named (fun W hW => ?_)
  obtain rfl : W = W0 := by rw [hW, hW0]; rfl
  clear hW hW0
  obtain ⟨⟨k1, t1⟩, hh⟩ : ∃ R, Rs.one xs 1 5 ⟨0, 0⟩ = R := ⟨_, rfl⟩
  have C1 := CO.out 1 5 _ _ _ S0.out
  rw [hh] at C1
  have H1 := Lib.hid hh
  clear hh
  go_wp2_with fail
  refine C1.mono ?_
  rintro x w1 hp
  have S1 := Lib.hid (S0.out.call hp)
  obtain ⟨rfl, -⟩ := hp
  clear C1 S0
  have f := S1.out.2.2.1.frozen 8
  obtain ⟨old, hold⟩ : ∃ old, (w1).cell? ⟨w.heap.size + 1 + 1, 8, none⟩ = some old := ⟨_, S1.out.2.2.1.cell (j := 8) rfl⟩
  have ltE := S1.out.2.2.1.lt
  have Q1 := Lib.hid (show RtS A n cap w _ ⟨0, 0, Ck.zero, 0, k1, ⟨#[]⟩, 0, ⟨#[]⟩⟩ (w1.setCell ⟨w.heap.size + 1 + 1, 8, none⟩ (.int .i64 (k1 : Nat))) from S1.out.put 8 (.int .i64 (k1 : Nat)) rfl)
  clear S1
  obtain ⟨⟨r, t2⟩, hh⟩ : ∃ R, Rs.one xs 0 4 t1 = R := ⟨_, rfl⟩
  have C1 := CO.out 0 4 _ _ _ Q1.out
  rw [hh] at C1
  have H2 := Lib.hid hh
  clear hh
  go_wp2_with fail
  refine C1.mono ?_
  rintro x w2 hp
  have S2 := Lib.hid (Q1.out.call hp)
  obtain ⟨rfl, -⟩ := hp
  clear C1 Q1
  have f := S2.out.2.2.1.frozen 0
  obtain ⟨old, hold⟩ : ∃ old, (w2).cell? ⟨w.heap.size + 1 + 1, 0, none⟩ = some old := ⟨_, S2.out.2.2.1.cell (j := 0) rfl⟩
  have ltE := S2.out.2.2.1.lt
  have Q2 := Lib.hid (show RtS A n cap w _ ⟨r, 0, Ck.zero, 0, k1, ⟨#[]⟩, 0, ⟨#[]⟩⟩ (w2.setCell ⟨w.heap.size + 1 + 1, 0, none⟩ (.int .i64 (r : Nat))) from S2.out.put 0 (.int .i64 (r : Nat)) rfl)
  clear S2
  obtain ⟨⟨m, t3⟩, hh⟩ : ∃ R, Rs.num xs 1 1048576 t2 = R := ⟨_, rfl⟩
  have C1 := CN.out _ _ _ Q2.out
  rw [hh] at C1
  have H3 := Lib.hid hh
  clear hh
  go_wp2_with fail
  refine C1.mono ?_
  rintro x w3 hp
  have S3 := Lib.hid (Q2.out.call hp)
  obtain ⟨rfl, -⟩ := hp
  clear C1 Q2
  have f := S3.out.2.2.1.frozen 1
  obtain ⟨old, hold⟩ : ∃ old, (w3).cell? ⟨w.heap.size + 1 + 1, 1, none⟩ = some old := ⟨_, S3.out.2.2.1.cell (j := 1) rfl⟩
  have ltE := S3.out.2.2.1.lt
  have Q3 := Lib.hid (show RtS A n cap w _ ⟨r, m, Ck.zero, 0, k1, ⟨#[]⟩, 0, ⟨#[]⟩⟩ (w3.setCell ⟨w.heap.size + 1 + 1, 1, none⟩ (.int .i64 (m : Nat))) from S3.out.put 1 (.int .i64 (m : Nat)) rfl)
  clear S3
  go_wp2
  have H3L := Lib.hid (show RtLoop A n cap xs w r t3 ⟨r, m, Ck.zero, 0, k1, ⟨#[]⟩, 0, ⟨#[]⟩⟩ (.int .i64 0) (w3.setCell ⟨w.heap.size + 1 + 1, 1, none⟩ (.int .i64 (m : Nat))) from ⟨0, Ck.zero, t3, by omega, rfl, Lib.hid rfl, Q3⟩)
  clear Q3 f hold ltE
  go_loopw [7] (fun v wr => RtLoop A n cap xs w r t3 ⟨r, m, Ck.zero, 0, k1, ⟨#[]⟩, 0, ⟨#[]⟩⟩ v wr) (fun v _ => 5 - (intOf v).toNat)
  case atStart => exact H3L.out
  case round =>
    obtain ⟨i, c, s, hi, rfl, HC, SL⟩ := hrel
    clear H3L
    by_cases h5 : i < 5
    · have h5' : (i : Int) < 5 := by omega
      have e0 : wr.cell? ⟨w.heap.size + 1 + 1, 0, none⟩ = some (.int .i64 (r : Nat)) := SL.out.2.2.1.cell (j := 0) rfl
      by_cases hir : i = r
      · have d1 : ((i : Int) != r) = false := by simp [bne]; omega
        have HC2 := Lib.hid (show Rs.cks xs r t3 (i + 1) = (c, s) by rw [Rs.cks, if_pos hir]; exact HC.out)
        clear hir HC
        go_wp2
        go_roundw
        case rel => exact ⟨i + 1, c, s, by omega, by go_num, HC2, SL⟩
        case measure => simp [intOf]; omega
      · have d1 : ((i : Int) != r) = true := by simp [bne]; omega
        obtain ⟨⟨a, t⟩, hh⟩ : ∃ R, Rs.num xs 0 1048576 s = R := ⟨_, rfl⟩
        have HC2 := Lib.hid (show Rs.cks xs r t3 (i + 1) = (c.set i a, t) by rw [Rs.cks, if_neg hir, HC.out]; simp only [hh])
        have C1 := CC.out _ _ _ SL.out
        rw [hh] at C1
        clear hir HC hh
        go_wp2_with fail
        refine C1.mono ?_
        rintro x w4 hp
        have S4 := Lib.hid (SL.out.call hp)
        obtain ⟨rfl, -⟩ := hp
        clear C1 e0
        have f := S4.out.2.2.1.frozen (2 + i)
        obtain ⟨old, hold⟩ : ∃ old, w4.cell? ⟨w.heap.size + 1 + 1, 2 + i, none⟩ = some old := ⟨_, S4.out.2.2.1.at_ h5⟩
        have ltE := S4.out.2.2.1.lt
        have Q4 := Lib.hid (show RtS A n cap w t ⟨r, m, c.set i a, 0, k1, ⟨#[]⟩, 0, ⟨#[]⟩⟩ (w4.setCell ⟨w.heap.size + 1 + 1, 2 + i, none⟩ (.int .i64 (a : Nat))) from S4.out.put (2 + i) (.int .i64 (a : Nat)) (by
          match i, h5 with
          | 0, _ | 1, _ | 2, _ | 3, _ | 4, _ => rfl))
        clear S4 SL
        go_wp2
        go_roundw
        case rel => exact ⟨i + 1, c.set i a, t, by omega, by go_num, HC2, Q4⟩
        case measure => simp [intOf]; omega
    · obtain rfl : i = 5 := by omega
      clear hi h5
      obtain ⟨⟨h, t5⟩, hh⟩ : ∃ R, Rs.num xs 1 16777216 s = R := ⟨_, rfl⟩
      have C1 := CH.out _ _ _ SL.out
      rw [hh] at C1
      have H5 := Lib.hid hh
      clear hh
      go_wp2_with fail
      refine C1.mono ?_
      rintro x w5 hp
      have S5 := Lib.hid (SL.out.call hp)
      obtain ⟨rfl, -⟩ := hp
      clear C1 SL
      have f := S5.out.2.2.1.frozen 7
      obtain ⟨old, hold⟩ : ∃ old, (w5).cell? ⟨w.heap.size + 1 + 1, 7, none⟩ = some old := ⟨_, S5.out.2.2.1.cell (j := 7) rfl⟩
      have ltE := S5.out.2.2.1.lt
      have Q5 := Lib.hid (show RtS A n cap w _ ⟨r, m, c, h, k1, ⟨#[]⟩, 0, ⟨#[]⟩⟩ (w5.setCell ⟨w.heap.size + 1 + 1, 7, none⟩ (.int .i64 (h : Nat))) from S5.out.put 7 (.int .i64 (h : Nat)) rfl)
      clear S5
      obtain ⟨⟨n6, t6⟩, hh⟩ : ∃ R, Rs.one xs 1 8 t5 = R := ⟨_, rfl⟩
      have C1 := CO.out 1 8 _ _ _ Q5.out
      rw [hh] at C1
      have H6 := Lib.hid hh
      clear hh
      go_wp2_with fail
      refine C1.mono ?_
      rintro x w6 hp
      have S6 := Lib.hid (Q5.out.call hp)
      obtain ⟨rfl, -⟩ := hp
      clear C1 Q5
      have L6 : n6 ≤ 255 := by have := Rs.one_lt HX.out 1 8 t5; rw [H6.out] at this; exact this
      obtain ⟨⟨key, t7⟩, hh⟩ : ∃ R, Rs.words xs n6 t6 = R := ⟨_, rfl⟩
      have C1 := CW.out n6 _ _ _ S6.out L6
      rw [hh] at C1
      have H7 := Lib.hid hh
      clear hh f hold ltE
      go_wp2_with fail
      refine C1.mono ?_
      rintro x w7 hp
      have S7 := Lib.hid (S6.out.call hp)
      obtain ⟨rfl, -⟩ := hp
      clear C1 S6
      have f := S7.out.2.2.1.frozen 9
      obtain ⟨old, hold⟩ : ∃ old, (w7).cell? ⟨w.heap.size + 1 + 1, 9, none⟩ = some old := ⟨_, S7.out.2.2.1.cell (j := 9) rfl⟩
      have ltE := S7.out.2.2.1.lt
      have Q7 := Lib.hid (show RtS A n cap w _ ⟨r, m, c, h, k1, key, 0, ⟨#[]⟩⟩ (w7.setCell ⟨w.heap.size + 1 + 1, 9, none⟩ (.string key)) from S7.out.put 9 (.string key) rfl)
      clear S7
      go_upto_region 13 with (fail)
      refine wp_named (fun W7 hW => ?_)
      have hW' : W7 = w7.setCell ⟨w.heap.size + 1 + 1, 9, none⟩ (.string key) := hW
      rw [← hW'] at Q7
      clear hW hW' f hold ltE
      by_cases he7 : t7.e = 0
      · by_cases hk7 : Tx.key key = 0
        · have HT8 := Lib.hid (show t7 = (if t7.e = 0 ∧ Tx.key key ≠ 0 then ⟨t7.p, 3⟩ else t7) by rw [if_neg (fun h => h.2 hk7)])
          obtain ⟨g0, g1, g2⟩ := Q7.out.2.1.rd
          have e9 : W7.cell? ⟨w.heap.size + 1 + 1, 9, none⟩ = some (.string key) := Q7.out.2.2.1.cell (j := 9) rfl
          have d7 : ((t7.e : Int) == 0) = true := by simp; exact he7
          go_wp2_with fail
          refine (CK.out key _).mono ?_
          rintro x w8 ⟨rfl, hw8⟩
          rw [hw8]
          clear hw8
          have d8 : (Tx.key key != 0) = false := by simp [bne, hk7]
          go_upto_region 15 with (fail)
          clear d8 hk7 he7 g0 g1 g2 d7 e9
          have e4 : (W7).cell? ⟨w.heap.size + 1 + 1, 8, none⟩ = some (.int .i64 (k1 : Nat)) := Q7.out.2.2.1.cell (j := 8) rfl
          by_cases hk2 : 2 < k1
          · have dk : decide (2 < k1) = true := by simp; omega
            obtain ⟨⟨l, t10⟩, hh⟩ : ∃ R, Rs.one xs 0 1 t7 = R := ⟨_, rfl⟩
            have C1 := CO.out 0 1 _ _ _ Q7.out
            rw [hh] at C1
            have H10 := Lib.hid hh
            clear hh
            go_wp2_with fail
            refine C1.mono ?_
            rintro x w10 hp
            have S10 := Lib.hid (Q7.out.call hp)
            obtain ⟨rfl, -⟩ := hp
            clear C1 Q7
            clear dk e4
            have f := S10.out.2.2.1.frozen 10
            obtain ⟨old, hold⟩ : ∃ old, (w10).cell? ⟨w.heap.size + 1 + 1, 10, none⟩ = some old := ⟨_, S10.out.2.2.1.cell (j := 10) rfl⟩
            have ltE := S10.out.2.2.1.lt
            have P10 := Lib.hid (show RtS A n cap w _ ⟨r, m, c, h, k1, key, l, ⟨#[]⟩⟩ (w10.setCell ⟨w.heap.size + 1 + 1, 10, none⟩ (.int .i64 (l : Nat))) from S10.out.put 10 (.int .i64 (l : Nat)) rfl)
            clear S10
            obtain ⟨⟨n11, t11⟩, hh⟩ : ∃ R, Rs.one xs 1 12 t10 = R := ⟨_, rfl⟩
            have C1 := CO.out 1 12 _ _ _ P10.out
            rw [hh] at C1
            have H11 := Lib.hid hh
            clear hh
            go_wp2_with fail
            refine C1.mono ?_
            rintro x w11 hp
            have S11 := Lib.hid (P10.out.call hp)
            obtain ⟨rfl, -⟩ := hp
            clear C1 P10
            clear f hold ltE
            have L11 : n11 ≤ 255 := by have := Rs.one_lt HX.out 1 12 t10; rw [H11.out] at this; exact this
            obtain ⟨⟨v, t12⟩, hh⟩ : ∃ R, Rs.words xs n11 t11 = R := ⟨_, rfl⟩
            have C1 := CW.out n11 _ _ _ S11.out L11
            rw [hh] at C1
            have H12 := Lib.hid hh
            clear hh
            go_wp2_with fail
            refine C1.mono ?_
            rintro x w12 hp
            have S12 := Lib.hid (S11.out.call hp)
            obtain ⟨rfl, -⟩ := hp
            clear C1 S11
            have f := S12.out.2.2.1.frozen 11
            obtain ⟨old, hold⟩ : ∃ old, (w12).cell? ⟨w.heap.size + 1 + 1, 11, none⟩ = some old := ⟨_, S12.out.2.2.1.cell (j := 11) rfl⟩
            have ltE := S12.out.2.2.1.lt
            have Q12 := Lib.hid (show RtS A n cap w _ ⟨r, m, c, h, k1, key, l, v⟩ (w12.setCell ⟨w.heap.size + 1 + 1, 11, none⟩ (.string v)) from S12.out.put 11 (.string v) rfl)
            clear S12
            go_upto_region 18 with (fail)
            refine wp_named (fun W12 hW => ?_)
            have hW' : W12 = w12.setCell ⟨w.heap.size + 1 + 1, 11, none⟩ (.string v) := hW
            rw [← hW'] at Q12
            clear hW hW' f hold ltE
            have up12 := Lib.hid (show t12.e = 0 → t7.e = 0 from fun h => by
              have a1 : t11.e = 0 := Rs.words_e (xs := xs) (m := n11) (by rw [H12.out]; exact h)
              have a2 : t10.e = 0 := (Rs.one_e (xs := xs) (lo := 1) (hi := 12) (by rw [H11.out]; exact a1)).1
              have a3 : (t7).e = 0 := (Rs.one_e (xs := xs) (lo := 0) (hi := 1) (by rw [H10.out]; exact a2)).1
              exact (fun h => h) a3)
            have rp := Lib.hid (show if 2 < k1 then l = (Rs.one xs 0 1 t7).1 ∧ (v, t12) = Rs.words xs (Rs.one xs 1 12 (Rs.one xs 0 1 t7).2).1 (Rs.one xs 1 12 (Rs.one xs 0 1 t7).2).2 else l = 0 ∧ v = ⟨#[]⟩ ∧ t12 = t7 by
              rw [if_pos hk2, H10.out]; simp only; rw [H11.out]; exact ⟨trivial, H12.out.symm⟩)
            obtain ⟨g0, g1, g2⟩ := Q12.out.2.1.rd
            by_cases he9 : (t12).e = 0
            · have d9 : (((t12).e : Int) != 0) = false := by simp [bne]; omega
              go_upto_region 20 with (fail)
              clear d9
              have hr : r ≤ 4 := rt_r H2.out H3.out HC.out H5.out H6.out H7.out (up12.out he9)
              have hm : m ≤ 1048576 := by have := Rs.num_le xs 1 1048576 t2; rw [show Rs.num xs 1 (1048576 : Nat) t2 = (m, t3) from H3.out] at this; exact this
              have wm : IntKind.i64.wrap ((m : Int) - 1) = (m : Int) - 1 := IntWalk.i64_in _ ⟨by omega, by omega⟩
              have r5 : (r : Int) < 5 := by omega
              have r5' : r < 5 := by omega
              have e0 : (W12).cell? ⟨w.heap.size + 1 + 1, 0, none⟩ = some (.int .i64 (r : Nat)) := Q12.out.2.2.1.cell (j := 0) rfl
              have e1 : (W12).cell? ⟨w.heap.size + 1 + 1, 1, none⟩ = some (.int .i64 (m : Nat)) := Q12.out.2.2.1.cell (j := 1) rfl
              have f := Q12.out.2.2.1.frozen (2 + r)
              obtain ⟨old, hold⟩ : ∃ old, (W12).cell? ⟨w.heap.size + 1 + 1, 2 + r, none⟩ = some old := ⟨_, Q12.out.2.2.1.at_ r5'⟩
              have ltE := Q12.out.2.2.1.lt
              have Q10 := Lib.hid (show RtS A n cap w t12 ⟨r, m, c.set r ((m : Int) - 1), h, k1, key, l, v⟩ ((W12).setCell ⟨w.heap.size + 1 + 1, 2 + r, none⟩ (.int .i64 ((m : Int) - 1))) from Q12.out.put (2 + r) (.int .i64 ((m : Int) - 1)) (by
                match r, r5' with
                | 0, _ | 1, _ | 2, _ | 3, _ | 4, _ => rfl))
              have EM : RtRel xs ⟨r, m, c.set r ((m : Int) - 1), h, k1, key, l, v⟩ (t12).p 0 := ⟨k1, t1, r, t2, m, t3, c, s, h, t5, n6, t6, key, t7, t7, l, v, t12, H1.out, H2.out, H3.out, HC.out, H5.out, H6.out, H7.out, HT8.out, rp.out, by rw [if_pos he9]; exact ⟨rfl, rfl, rfl⟩⟩
              have HE := Lib.hid EM
              clear EM
              go_upto_region 21 with (fail)
              refine wp_named (fun W10 hW => ?_)
              have hW' : W10 = (W12).setCell ⟨w.heap.size + 1 + 1, 2 + r, none⟩ (.int .i64 ((m : Int) - 1)) := hW
              rw [← hW'] at Q10
              clear hW hW' f hold ltE e0 e1 g0 g1 g2 wm
              have K10 := Q10.out.2.2.2.2
              obtain ⟨g0, g1, g2⟩ := Q10.out.2.1.rd
              obtain ⟨b0, b1, b2, b3, b4, b5, b6, b7, b8, b9, b10, b11⟩ := Blk.all W10 Q10.out.2.2.1
              have fr := Q10.out.2.2.2.1.frozen
              obtain ⟨k0, k1', k2, k3, k4, k5, k6, k7, k8, k9, k10, k11⟩ := Blk.all W10 Q10.out.2.2.2.1
              have f0 := fr 0; have f1 := fr 1; have f2 := fr 2; have f3 := fr 3; have f4 := fr 4; have f5 := fr 5; have f6 := fr 6; have f7 := fr 7; have f8 := fr 8; have f9 := fr 9; have f10 := fr 10; have f11 := fr 11
              have ltR := Q10.out.2.2.2.1.lt
              clear fr
              go_region
              go_wp2
              change bodyPost _ _ _ _ _ (put12 W10 w.heap.size ⟨r, m, c.set r ((m : Int) - 1), h, k1, key, l, v⟩).drew
              have K := (put12_blk Q10.out.2.2.2.1 ⟨r, m, c.set r ((m : Int) - 1), h, k1, key, l, v⟩).up (Lex.Up.drew _)
              have BB := (put12_below Q10.out.1 (Nat.le_refl _) ⟨r, m, c.set r ((m : Int) - 1), h, k1, key, l, v⟩).drew
              generalize (put12 W10 w.heap.size ⟨r, m, c.set r ((m : Int) - 1), h, k1, key, l, v⟩).drew = W3 at *
              obtain ⟨j0, j1, j2, j3, j4, j5, j6, j7, j8, j9, j10, j11⟩ := Blk.all W3 K
              exact bodyPost_ret (v := .tuple #[Ev.val ⟨r, m, c.set r ((m : Int) - 1), h, k1, key, l, v⟩, .int .i64 (((t12).p : Nat) : Int), .int .i64 ((0 : Nat) : Int)]) (by simp [results, Try.results85, go_sem, Ev.val, Ev.zero, Ck.zero, j0, j1, j2, j3, j4, j5, j6, j7, j8, j9, j10, j11]) rfl ⟨⟨r, m, c.set r ((m : Int) - 1), h, k1, key, l, v⟩, (t12).p, 0, rfl, K10, HE.out, BB⟩
            · have d9 : (((t12).e : Int) != 0) = true := by simp [bne]; omega
              go_upto_region 19 with (fail)
              have EM : RtRel xs Ev.zero 0 (t12).e := ⟨k1, t1, r, t2, m, t3, c, s, h, t5, n6, t6, key, t7, t7, l, v, t12, H1.out, H2.out, H3.out, HC.out, H5.out, H6.out, H7.out, HT8.out, rp.out, by rw [if_neg he9]; exact ⟨rfl, rfl, rfl⟩⟩
              have HE := Lib.hid EM
              clear EM
              have fr := Q12.out.2.2.2.1.frozen
              obtain ⟨k0, k1', k2, k3, k4, k5, k6, k7, k8, k9, k10, k11⟩ := Blk.all W12 Q12.out.2.2.2.1
              have f0 := fr 0; have f1 := fr 1; have f2 := fr 2; have f3 := fr 3; have f4 := fr 4; have f5 := fr 5; have f6 := fr 6; have f7 := fr 7; have f8 := fr 8; have f9 := fr 9; have f10 := fr 10; have f11 := fr 11
              have ltR := Q12.out.2.2.2.1.lt
              clear fr
              go_region
              go_wp2
              change bodyPost _ _ _ _ _ (put12 W12 w.heap.size Ev.zero).drew
              have K := (put12_blk Q12.out.2.2.2.1 Ev.zero).up (Lex.Up.drew _)
              have BB := (put12_below Q12.out.1 (Nat.le_refl _) Ev.zero).drew
              generalize (put12 W12 w.heap.size Ev.zero).drew = W3 at *
              obtain ⟨j0, j1, j2, j3, j4, j5, j6, j7, j8, j9, j10, j11⟩ := Blk.all W3 K
              exact bodyPost_ret (v := .tuple #[Ev.val Ev.zero, .int .i64 ((0 : Nat) : Int), .int .i64 (((t12).e : Nat) : Int)]) (by simp [results, Try.results85, go_sem, Ev.val, Ev.zero, Ck.zero, j0, j1, j2, j3, j4, j5, j6, j7, j8, j9, j10, j11]) rfl ⟨Ev.zero, 0, (t12).e, rfl, (Nat.zero_le _), HE.out, BB⟩
          · have dk : decide (2 < k1) = false := by simp; omega
            go_upto_region 18 with (fail)
            clear dk e4
            obtain ⟨g0, g1, g2⟩ := Q7.out.2.1.rd
            by_cases he9 : (t7).e = 0
            · have d9 : (((t7).e : Int) != 0) = false := by simp [bne]; omega
              go_upto_region 20 with (fail)
              clear d9
              have hr : r ≤ 4 := rt_r H2.out H3.out HC.out H5.out H6.out H7.out ((fun h => h) he9)
              have hm : m ≤ 1048576 := by have := Rs.num_le xs 1 1048576 t2; rw [show Rs.num xs 1 (1048576 : Nat) t2 = (m, t3) from H3.out] at this; exact this
              have wm : IntKind.i64.wrap ((m : Int) - 1) = (m : Int) - 1 := IntWalk.i64_in _ ⟨by omega, by omega⟩
              have r5 : (r : Int) < 5 := by omega
              have r5' : r < 5 := by omega
              have e0 : (W7).cell? ⟨w.heap.size + 1 + 1, 0, none⟩ = some (.int .i64 (r : Nat)) := Q7.out.2.2.1.cell (j := 0) rfl
              have e1 : (W7).cell? ⟨w.heap.size + 1 + 1, 1, none⟩ = some (.int .i64 (m : Nat)) := Q7.out.2.2.1.cell (j := 1) rfl
              have f := Q7.out.2.2.1.frozen (2 + r)
              obtain ⟨old, hold⟩ : ∃ old, (W7).cell? ⟨w.heap.size + 1 + 1, 2 + r, none⟩ = some old := ⟨_, Q7.out.2.2.1.at_ r5'⟩
              have ltE := Q7.out.2.2.1.lt
              have Q10 := Lib.hid (show RtS A n cap w t7 ⟨r, m, c.set r ((m : Int) - 1), h, k1, key, 0, ⟨#[]⟩⟩ ((W7).setCell ⟨w.heap.size + 1 + 1, 2 + r, none⟩ (.int .i64 ((m : Int) - 1))) from Q7.out.put (2 + r) (.int .i64 ((m : Int) - 1)) (by
                match r, r5' with
                | 0, _ | 1, _ | 2, _ | 3, _ | 4, _ => rfl))
              have EM : RtRel xs ⟨r, m, c.set r ((m : Int) - 1), h, k1, key, 0, ⟨#[]⟩⟩ (t7).p 0 := ⟨k1, t1, r, t2, m, t3, c, s, h, t5, n6, t6, key, t7, t7, 0, ⟨#[]⟩, t7, H1.out, H2.out, H3.out, HC.out, H5.out, H6.out, H7.out, HT8.out, (by rw [if_neg hk2]; exact ⟨rfl, rfl, rfl⟩), by rw [if_pos he9]; exact ⟨rfl, rfl, rfl⟩⟩
              have HE := Lib.hid EM
              clear EM
              go_upto_region 21 with (fail)
              refine wp_named (fun W10 hW => ?_)
              have hW' : W10 = (W7).setCell ⟨w.heap.size + 1 + 1, 2 + r, none⟩ (.int .i64 ((m : Int) - 1)) := hW
              rw [← hW'] at Q10
              clear hW hW' f hold ltE e0 e1 g0 g1 g2 wm
              have K10 := Q10.out.2.2.2.2
              obtain ⟨g0, g1, g2⟩ := Q10.out.2.1.rd
              obtain ⟨b0, b1, b2, b3, b4, b5, b6, b7, b8, b9, b10, b11⟩ := Blk.all W10 Q10.out.2.2.1
              have fr := Q10.out.2.2.2.1.frozen
              obtain ⟨k0, k1', k2, k3, k4, k5, k6, k7, k8, k9, k10, k11⟩ := Blk.all W10 Q10.out.2.2.2.1
              have f0 := fr 0; have f1 := fr 1; have f2 := fr 2; have f3 := fr 3; have f4 := fr 4; have f5 := fr 5; have f6 := fr 6; have f7 := fr 7; have f8 := fr 8; have f9 := fr 9; have f10 := fr 10; have f11 := fr 11
              have ltR := Q10.out.2.2.2.1.lt
              clear fr
              go_region
              go_wp2
              change bodyPost _ _ _ _ _ (put12 W10 w.heap.size ⟨r, m, c.set r ((m : Int) - 1), h, k1, key, 0, ⟨#[]⟩⟩).drew
              have K := (put12_blk Q10.out.2.2.2.1 ⟨r, m, c.set r ((m : Int) - 1), h, k1, key, 0, ⟨#[]⟩⟩).up (Lex.Up.drew _)
              have BB := (put12_below Q10.out.1 (Nat.le_refl _) ⟨r, m, c.set r ((m : Int) - 1), h, k1, key, 0, ⟨#[]⟩⟩).drew
              generalize (put12 W10 w.heap.size ⟨r, m, c.set r ((m : Int) - 1), h, k1, key, 0, ⟨#[]⟩⟩).drew = W3 at *
              obtain ⟨j0, j1, j2, j3, j4, j5, j6, j7, j8, j9, j10, j11⟩ := Blk.all W3 K
              exact bodyPost_ret (v := .tuple #[Ev.val ⟨r, m, c.set r ((m : Int) - 1), h, k1, key, 0, ⟨#[]⟩⟩, .int .i64 (((t7).p : Nat) : Int), .int .i64 ((0 : Nat) : Int)]) (by simp [results, Try.results85, go_sem, Ev.val, Ev.zero, Ck.zero, j0, j1, j2, j3, j4, j5, j6, j7, j8, j9, j10, j11]) rfl ⟨⟨r, m, c.set r ((m : Int) - 1), h, k1, key, 0, ⟨#[]⟩⟩, (t7).p, 0, rfl, K10, HE.out, BB⟩
            · have d9 : (((t7).e : Int) != 0) = true := by simp [bne]; omega
              go_upto_region 19 with (fail)
              have EM : RtRel xs Ev.zero 0 (t7).e := ⟨k1, t1, r, t2, m, t3, c, s, h, t5, n6, t6, key, t7, t7, 0, ⟨#[]⟩, t7, H1.out, H2.out, H3.out, HC.out, H5.out, H6.out, H7.out, HT8.out, (by rw [if_neg hk2]; exact ⟨rfl, rfl, rfl⟩), by rw [if_neg he9]; exact ⟨rfl, rfl, rfl⟩⟩
              have HE := Lib.hid EM
              clear EM
              have fr := Q7.out.2.2.2.1.frozen
              obtain ⟨k0, k1', k2, k3, k4, k5, k6, k7, k8, k9, k10, k11⟩ := Blk.all W7 Q7.out.2.2.2.1
              have f0 := fr 0; have f1 := fr 1; have f2 := fr 2; have f3 := fr 3; have f4 := fr 4; have f5 := fr 5; have f6 := fr 6; have f7 := fr 7; have f8 := fr 8; have f9 := fr 9; have f10 := fr 10; have f11 := fr 11
              have ltR := Q7.out.2.2.2.1.lt
              clear fr
              go_region
              go_wp2
              change bodyPost _ _ _ _ _ (put12 W7 w.heap.size Ev.zero).drew
              have K := (put12_blk Q7.out.2.2.2.1 Ev.zero).up (Lex.Up.drew _)
              have BB := (put12_below Q7.out.1 (Nat.le_refl _) Ev.zero).drew
              generalize (put12 W7 w.heap.size Ev.zero).drew = W3 at *
              obtain ⟨j0, j1, j2, j3, j4, j5, j6, j7, j8, j9, j10, j11⟩ := Blk.all W3 K
              exact bodyPost_ret (v := .tuple #[Ev.val Ev.zero, .int .i64 ((0 : Nat) : Int), .int .i64 (((t7).e : Nat) : Int)]) (by simp [results, Try.results85, go_sem, Ev.val, Ev.zero, Ck.zero, j0, j1, j2, j3, j4, j5, j6, j7, j8, j9, j10, j11]) rfl ⟨Ev.zero, 0, (t7).e, rfl, (Nat.zero_le _), HE.out, BB⟩
        · have HT8 := Lib.hid (show (⟨t7.p, 3⟩ : Rs) = (if t7.e = 0 ∧ Tx.key key ≠ 0 then ⟨t7.p, 3⟩ else t7) by rw [if_pos ⟨he7, hk7⟩])
          obtain ⟨g0, g1, g2⟩ := Q7.out.2.1.rd
          have e9 : W7.cell? ⟨w.heap.size + 1 + 1, 9, none⟩ = some (.string key) := Q7.out.2.2.1.cell (j := 9) rfl
          have d7 : ((t7.e : Int) == 0) = true := by simp; exact he7
          go_wp2_with fail
          refine (CK.out key _).mono ?_
          rintro x w8 ⟨rfl, hw8⟩
          rw [hw8]
          clear hw8
          have d8 : (Tx.key key != 0) = true := by simp [bne]; exact hk7
          have f := Q7.out.2.1.frozen 2
          have ltR := Q7.out.2.1.lt
          have Q8 := Lib.hid (show RtS A n cap w ⟨t7.p, 3⟩ ⟨r, m, c, h, k1, key, 0, ⟨#[]⟩⟩ (W7.setCell ⟨w.heap.size + 1, 2, none⟩ (.int .i64 3)) from Q7.out.err 3)
          go_upto_region 15 with (fail)
          refine wp_named (fun W8 hW => ?_)
          have hW' : W8 = W7.setCell ⟨w.heap.size + 1, 2, none⟩ (.int .i64 3) := hW
          rw [← hW'] at Q8
          clear hW hW' d8 hk7 he7 g0 g1 g2 d7 e9 f ltR
          obtain ⟨t8, ht8⟩ : ∃ t8 : Rs, (⟨t7.p, 3⟩ : Rs) = t8 := ⟨_, rfl⟩
          have HT9 := Lib.hid (show t8 = (if t7.e = 0 ∧ Tx.key key ≠ 0 then ⟨t7.p, 3⟩ else t7) from ht8.symm.trans HT8.out)
          rw [ht8] at Q8
          clear HT8
          have HT8 := HT9
          clear HT9
          have UP8 := Lib.hid (show t8.e = 0 → t7.e = 0 from fun h => by rw [← ht8] at h; simp at h)
          clear ht8
          have e4 : (W8).cell? ⟨w.heap.size + 1 + 1, 8, none⟩ = some (.int .i64 (k1 : Nat)) := Q8.out.2.2.1.cell (j := 8) rfl
          by_cases hk2 : 2 < k1
          · have dk : decide (2 < k1) = true := by simp; omega
            obtain ⟨⟨l, t10⟩, hh⟩ : ∃ R, Rs.one xs 0 1 t8 = R := ⟨_, rfl⟩
            have C1 := CO.out 0 1 _ _ _ Q8.out
            rw [hh] at C1
            have H10 := Lib.hid hh
            clear hh
            go_wp2_with fail
            refine C1.mono ?_
            rintro x w10 hp
            have S10 := Lib.hid (Q8.out.call hp)
            obtain ⟨rfl, -⟩ := hp
            clear C1 Q8
            clear dk e4
            have f := S10.out.2.2.1.frozen 10
            obtain ⟨old, hold⟩ : ∃ old, (w10).cell? ⟨w.heap.size + 1 + 1, 10, none⟩ = some old := ⟨_, S10.out.2.2.1.cell (j := 10) rfl⟩
            have ltE := S10.out.2.2.1.lt
            have P10 := Lib.hid (show RtS A n cap w _ ⟨r, m, c, h, k1, key, l, ⟨#[]⟩⟩ (w10.setCell ⟨w.heap.size + 1 + 1, 10, none⟩ (.int .i64 (l : Nat))) from S10.out.put 10 (.int .i64 (l : Nat)) rfl)
            clear S10
            obtain ⟨⟨n11, t11⟩, hh⟩ : ∃ R, Rs.one xs 1 12 t10 = R := ⟨_, rfl⟩
            have C1 := CO.out 1 12 _ _ _ P10.out
            rw [hh] at C1
            have H11 := Lib.hid hh
            clear hh
            go_wp2_with fail
            refine C1.mono ?_
            rintro x w11 hp
            have S11 := Lib.hid (P10.out.call hp)
            obtain ⟨rfl, -⟩ := hp
            clear C1 P10
            clear f hold ltE
            have L11 : n11 ≤ 255 := by have := Rs.one_lt HX.out 1 12 t10; rw [H11.out] at this; exact this
            obtain ⟨⟨v, t12⟩, hh⟩ : ∃ R, Rs.words xs n11 t11 = R := ⟨_, rfl⟩
            have C1 := CW.out n11 _ _ _ S11.out L11
            rw [hh] at C1
            have H12 := Lib.hid hh
            clear hh
            go_wp2_with fail
            refine C1.mono ?_
            rintro x w12 hp
            have S12 := Lib.hid (S11.out.call hp)
            obtain ⟨rfl, -⟩ := hp
            clear C1 S11
            have f := S12.out.2.2.1.frozen 11
            obtain ⟨old, hold⟩ : ∃ old, (w12).cell? ⟨w.heap.size + 1 + 1, 11, none⟩ = some old := ⟨_, S12.out.2.2.1.cell (j := 11) rfl⟩
            have ltE := S12.out.2.2.1.lt
            have Q12 := Lib.hid (show RtS A n cap w _ ⟨r, m, c, h, k1, key, l, v⟩ (w12.setCell ⟨w.heap.size + 1 + 1, 11, none⟩ (.string v)) from S12.out.put 11 (.string v) rfl)
            clear S12
            go_upto_region 18 with (fail)
            refine wp_named (fun W12 hW => ?_)
            have hW' : W12 = w12.setCell ⟨w.heap.size + 1 + 1, 11, none⟩ (.string v) := hW
            rw [← hW'] at Q12
            clear hW hW' f hold ltE
            have up12 := Lib.hid (show t12.e = 0 → t7.e = 0 from fun h => by
              have a1 : t11.e = 0 := Rs.words_e (xs := xs) (m := n11) (by rw [H12.out]; exact h)
              have a2 : t10.e = 0 := (Rs.one_e (xs := xs) (lo := 1) (hi := 12) (by rw [H11.out]; exact a1)).1
              have a3 : (t8).e = 0 := (Rs.one_e (xs := xs) (lo := 0) (hi := 1) (by rw [H10.out]; exact a2)).1
              exact UP8.out a3)
            have rp := Lib.hid (show if 2 < k1 then l = (Rs.one xs 0 1 t8).1 ∧ (v, t12) = Rs.words xs (Rs.one xs 1 12 (Rs.one xs 0 1 t8).2).1 (Rs.one xs 1 12 (Rs.one xs 0 1 t8).2).2 else l = 0 ∧ v = ⟨#[]⟩ ∧ t12 = t8 by
              rw [if_pos hk2, H10.out]; simp only; rw [H11.out]; exact ⟨trivial, H12.out.symm⟩)
            obtain ⟨g0, g1, g2⟩ := Q12.out.2.1.rd
            by_cases he9 : (t12).e = 0
            · have d9 : (((t12).e : Int) != 0) = false := by simp [bne]; omega
              go_upto_region 20 with (fail)
              clear d9
              have hr : r ≤ 4 := rt_r H2.out H3.out HC.out H5.out H6.out H7.out (up12.out he9)
              have hm : m ≤ 1048576 := by have := Rs.num_le xs 1 1048576 t2; rw [show Rs.num xs 1 (1048576 : Nat) t2 = (m, t3) from H3.out] at this; exact this
              have wm : IntKind.i64.wrap ((m : Int) - 1) = (m : Int) - 1 := IntWalk.i64_in _ ⟨by omega, by omega⟩
              have r5 : (r : Int) < 5 := by omega
              have r5' : r < 5 := by omega
              have e0 : (W12).cell? ⟨w.heap.size + 1 + 1, 0, none⟩ = some (.int .i64 (r : Nat)) := Q12.out.2.2.1.cell (j := 0) rfl
              have e1 : (W12).cell? ⟨w.heap.size + 1 + 1, 1, none⟩ = some (.int .i64 (m : Nat)) := Q12.out.2.2.1.cell (j := 1) rfl
              have f := Q12.out.2.2.1.frozen (2 + r)
              obtain ⟨old, hold⟩ : ∃ old, (W12).cell? ⟨w.heap.size + 1 + 1, 2 + r, none⟩ = some old := ⟨_, Q12.out.2.2.1.at_ r5'⟩
              have ltE := Q12.out.2.2.1.lt
              have Q10 := Lib.hid (show RtS A n cap w t12 ⟨r, m, c.set r ((m : Int) - 1), h, k1, key, l, v⟩ ((W12).setCell ⟨w.heap.size + 1 + 1, 2 + r, none⟩ (.int .i64 ((m : Int) - 1))) from Q12.out.put (2 + r) (.int .i64 ((m : Int) - 1)) (by
                match r, r5' with
                | 0, _ | 1, _ | 2, _ | 3, _ | 4, _ => rfl))
              have EM : RtRel xs ⟨r, m, c.set r ((m : Int) - 1), h, k1, key, l, v⟩ (t12).p 0 := ⟨k1, t1, r, t2, m, t3, c, s, h, t5, n6, t6, key, t7, t8, l, v, t12, H1.out, H2.out, H3.out, HC.out, H5.out, H6.out, H7.out, HT8.out, rp.out, by rw [if_pos he9]; exact ⟨rfl, rfl, rfl⟩⟩
              have HE := Lib.hid EM
              clear EM
              go_upto_region 21 with (fail)
              refine wp_named (fun W10 hW => ?_)
              have hW' : W10 = (W12).setCell ⟨w.heap.size + 1 + 1, 2 + r, none⟩ (.int .i64 ((m : Int) - 1)) := hW
              rw [← hW'] at Q10
              clear hW hW' f hold ltE e0 e1 g0 g1 g2 wm
              have K10 := Q10.out.2.2.2.2
              obtain ⟨g0, g1, g2⟩ := Q10.out.2.1.rd
              obtain ⟨b0, b1, b2, b3, b4, b5, b6, b7, b8, b9, b10, b11⟩ := Blk.all W10 Q10.out.2.2.1
              have fr := Q10.out.2.2.2.1.frozen
              obtain ⟨k0, k1', k2, k3, k4, k5, k6, k7, k8, k9, k10, k11⟩ := Blk.all W10 Q10.out.2.2.2.1
              have f0 := fr 0; have f1 := fr 1; have f2 := fr 2; have f3 := fr 3; have f4 := fr 4; have f5 := fr 5; have f6 := fr 6; have f7 := fr 7; have f8 := fr 8; have f9 := fr 9; have f10 := fr 10; have f11 := fr 11
              have ltR := Q10.out.2.2.2.1.lt
              clear fr
              go_region
              go_wp2
              change bodyPost _ _ _ _ _ (put12 W10 w.heap.size ⟨r, m, c.set r ((m : Int) - 1), h, k1, key, l, v⟩).drew
              have K := (put12_blk Q10.out.2.2.2.1 ⟨r, m, c.set r ((m : Int) - 1), h, k1, key, l, v⟩).up (Lex.Up.drew _)
              have BB := (put12_below Q10.out.1 (Nat.le_refl _) ⟨r, m, c.set r ((m : Int) - 1), h, k1, key, l, v⟩).drew
              generalize (put12 W10 w.heap.size ⟨r, m, c.set r ((m : Int) - 1), h, k1, key, l, v⟩).drew = W3 at *
              obtain ⟨j0, j1, j2, j3, j4, j5, j6, j7, j8, j9, j10, j11⟩ := Blk.all W3 K
              exact bodyPost_ret (v := .tuple #[Ev.val ⟨r, m, c.set r ((m : Int) - 1), h, k1, key, l, v⟩, .int .i64 (((t12).p : Nat) : Int), .int .i64 ((0 : Nat) : Int)]) (by simp [results, Try.results85, go_sem, Ev.val, Ev.zero, Ck.zero, j0, j1, j2, j3, j4, j5, j6, j7, j8, j9, j10, j11]) rfl ⟨⟨r, m, c.set r ((m : Int) - 1), h, k1, key, l, v⟩, (t12).p, 0, rfl, K10, HE.out, BB⟩
            · have d9 : (((t12).e : Int) != 0) = true := by simp [bne]; omega
              go_upto_region 19 with (fail)
              have EM : RtRel xs Ev.zero 0 (t12).e := ⟨k1, t1, r, t2, m, t3, c, s, h, t5, n6, t6, key, t7, t8, l, v, t12, H1.out, H2.out, H3.out, HC.out, H5.out, H6.out, H7.out, HT8.out, rp.out, by rw [if_neg he9]; exact ⟨rfl, rfl, rfl⟩⟩
              have HE := Lib.hid EM
              clear EM
              have fr := Q12.out.2.2.2.1.frozen
              obtain ⟨k0, k1', k2, k3, k4, k5, k6, k7, k8, k9, k10, k11⟩ := Blk.all W12 Q12.out.2.2.2.1
              have f0 := fr 0; have f1 := fr 1; have f2 := fr 2; have f3 := fr 3; have f4 := fr 4; have f5 := fr 5; have f6 := fr 6; have f7 := fr 7; have f8 := fr 8; have f9 := fr 9; have f10 := fr 10; have f11 := fr 11
              have ltR := Q12.out.2.2.2.1.lt
              clear fr
              go_region
              go_wp2
              change bodyPost _ _ _ _ _ (put12 W12 w.heap.size Ev.zero).drew
              have K := (put12_blk Q12.out.2.2.2.1 Ev.zero).up (Lex.Up.drew _)
              have BB := (put12_below Q12.out.1 (Nat.le_refl _) Ev.zero).drew
              generalize (put12 W12 w.heap.size Ev.zero).drew = W3 at *
              obtain ⟨j0, j1, j2, j3, j4, j5, j6, j7, j8, j9, j10, j11⟩ := Blk.all W3 K
              exact bodyPost_ret (v := .tuple #[Ev.val Ev.zero, .int .i64 ((0 : Nat) : Int), .int .i64 (((t12).e : Nat) : Int)]) (by simp [results, Try.results85, go_sem, Ev.val, Ev.zero, Ck.zero, j0, j1, j2, j3, j4, j5, j6, j7, j8, j9, j10, j11]) rfl ⟨Ev.zero, 0, (t12).e, rfl, (Nat.zero_le _), HE.out, BB⟩
          · have dk : decide (2 < k1) = false := by simp; omega
            go_upto_region 18 with (fail)
            clear dk e4
            obtain ⟨g0, g1, g2⟩ := Q8.out.2.1.rd
            by_cases he9 : (t8).e = 0
            · have d9 : (((t8).e : Int) != 0) = false := by simp [bne]; omega
              go_upto_region 20 with (fail)
              clear d9
              have hr : r ≤ 4 := rt_r H2.out H3.out HC.out H5.out H6.out H7.out (UP8.out he9)
              have hm : m ≤ 1048576 := by have := Rs.num_le xs 1 1048576 t2; rw [show Rs.num xs 1 (1048576 : Nat) t2 = (m, t3) from H3.out] at this; exact this
              have wm : IntKind.i64.wrap ((m : Int) - 1) = (m : Int) - 1 := IntWalk.i64_in _ ⟨by omega, by omega⟩
              have r5 : (r : Int) < 5 := by omega
              have r5' : r < 5 := by omega
              have e0 : (W8).cell? ⟨w.heap.size + 1 + 1, 0, none⟩ = some (.int .i64 (r : Nat)) := Q8.out.2.2.1.cell (j := 0) rfl
              have e1 : (W8).cell? ⟨w.heap.size + 1 + 1, 1, none⟩ = some (.int .i64 (m : Nat)) := Q8.out.2.2.1.cell (j := 1) rfl
              have f := Q8.out.2.2.1.frozen (2 + r)
              obtain ⟨old, hold⟩ : ∃ old, (W8).cell? ⟨w.heap.size + 1 + 1, 2 + r, none⟩ = some old := ⟨_, Q8.out.2.2.1.at_ r5'⟩
              have ltE := Q8.out.2.2.1.lt
              have Q10 := Lib.hid (show RtS A n cap w t8 ⟨r, m, c.set r ((m : Int) - 1), h, k1, key, 0, ⟨#[]⟩⟩ ((W8).setCell ⟨w.heap.size + 1 + 1, 2 + r, none⟩ (.int .i64 ((m : Int) - 1))) from Q8.out.put (2 + r) (.int .i64 ((m : Int) - 1)) (by
                match r, r5' with
                | 0, _ | 1, _ | 2, _ | 3, _ | 4, _ => rfl))
              have EM : RtRel xs ⟨r, m, c.set r ((m : Int) - 1), h, k1, key, 0, ⟨#[]⟩⟩ (t8).p 0 := ⟨k1, t1, r, t2, m, t3, c, s, h, t5, n6, t6, key, t7, t8, 0, ⟨#[]⟩, t8, H1.out, H2.out, H3.out, HC.out, H5.out, H6.out, H7.out, HT8.out, (by rw [if_neg hk2]; exact ⟨rfl, rfl, rfl⟩), by rw [if_pos he9]; exact ⟨rfl, rfl, rfl⟩⟩
              have HE := Lib.hid EM
              clear EM
              go_upto_region 21 with (fail)
              refine wp_named (fun W10 hW => ?_)
              have hW' : W10 = (W8).setCell ⟨w.heap.size + 1 + 1, 2 + r, none⟩ (.int .i64 ((m : Int) - 1)) := hW
              rw [← hW'] at Q10
              clear hW hW' f hold ltE e0 e1 g0 g1 g2 wm
              have K10 := Q10.out.2.2.2.2
              obtain ⟨g0, g1, g2⟩ := Q10.out.2.1.rd
              obtain ⟨b0, b1, b2, b3, b4, b5, b6, b7, b8, b9, b10, b11⟩ := Blk.all W10 Q10.out.2.2.1
              have fr := Q10.out.2.2.2.1.frozen
              obtain ⟨k0, k1', k2, k3, k4, k5, k6, k7, k8, k9, k10, k11⟩ := Blk.all W10 Q10.out.2.2.2.1
              have f0 := fr 0; have f1 := fr 1; have f2 := fr 2; have f3 := fr 3; have f4 := fr 4; have f5 := fr 5; have f6 := fr 6; have f7 := fr 7; have f8 := fr 8; have f9 := fr 9; have f10 := fr 10; have f11 := fr 11
              have ltR := Q10.out.2.2.2.1.lt
              clear fr
              go_region
              go_wp2
              change bodyPost _ _ _ _ _ (put12 W10 w.heap.size ⟨r, m, c.set r ((m : Int) - 1), h, k1, key, 0, ⟨#[]⟩⟩).drew
              have K := (put12_blk Q10.out.2.2.2.1 ⟨r, m, c.set r ((m : Int) - 1), h, k1, key, 0, ⟨#[]⟩⟩).up (Lex.Up.drew _)
              have BB := (put12_below Q10.out.1 (Nat.le_refl _) ⟨r, m, c.set r ((m : Int) - 1), h, k1, key, 0, ⟨#[]⟩⟩).drew
              generalize (put12 W10 w.heap.size ⟨r, m, c.set r ((m : Int) - 1), h, k1, key, 0, ⟨#[]⟩⟩).drew = W3 at *
              obtain ⟨j0, j1, j2, j3, j4, j5, j6, j7, j8, j9, j10, j11⟩ := Blk.all W3 K
              exact bodyPost_ret (v := .tuple #[Ev.val ⟨r, m, c.set r ((m : Int) - 1), h, k1, key, 0, ⟨#[]⟩⟩, .int .i64 (((t8).p : Nat) : Int), .int .i64 ((0 : Nat) : Int)]) (by simp [results, Try.results85, go_sem, Ev.val, Ev.zero, Ck.zero, j0, j1, j2, j3, j4, j5, j6, j7, j8, j9, j10, j11]) rfl ⟨⟨r, m, c.set r ((m : Int) - 1), h, k1, key, 0, ⟨#[]⟩⟩, (t8).p, 0, rfl, K10, HE.out, BB⟩
            · have d9 : (((t8).e : Int) != 0) = true := by simp [bne]; omega
              go_upto_region 19 with (fail)
              have EM : RtRel xs Ev.zero 0 (t8).e := ⟨k1, t1, r, t2, m, t3, c, s, h, t5, n6, t6, key, t7, t8, 0, ⟨#[]⟩, t8, H1.out, H2.out, H3.out, HC.out, H5.out, H6.out, H7.out, HT8.out, (by rw [if_neg hk2]; exact ⟨rfl, rfl, rfl⟩), by rw [if_neg he9]; exact ⟨rfl, rfl, rfl⟩⟩
              have HE := Lib.hid EM
              clear EM
              have fr := Q8.out.2.2.2.1.frozen
              obtain ⟨k0, k1', k2, k3, k4, k5, k6, k7, k8, k9, k10, k11⟩ := Blk.all W8 Q8.out.2.2.2.1
              have f0 := fr 0; have f1 := fr 1; have f2 := fr 2; have f3 := fr 3; have f4 := fr 4; have f5 := fr 5; have f6 := fr 6; have f7 := fr 7; have f8 := fr 8; have f9 := fr 9; have f10 := fr 10; have f11 := fr 11
              have ltR := Q8.out.2.2.2.1.lt
              clear fr
              go_region
              go_wp2
              change bodyPost _ _ _ _ _ (put12 W8 w.heap.size Ev.zero).drew
              have K := (put12_blk Q8.out.2.2.2.1 Ev.zero).up (Lex.Up.drew _)
              have BB := (put12_below Q8.out.1 (Nat.le_refl _) Ev.zero).drew
              generalize (put12 W8 w.heap.size Ev.zero).drew = W3 at *
              obtain ⟨j0, j1, j2, j3, j4, j5, j6, j7, j8, j9, j10, j11⟩ := Blk.all W3 K
              exact bodyPost_ret (v := .tuple #[Ev.val Ev.zero, .int .i64 ((0 : Nat) : Int), .int .i64 (((t8).e : Nat) : Int)]) (by simp [results, Try.results85, go_sem, Ev.val, Ev.zero, Ck.zero, j0, j1, j2, j3, j4, j5, j6, j7, j8, j9, j10, j11]) rfl ⟨Ev.zero, 0, (t8).e, rfl, (Nat.zero_le _), HE.out, BB⟩
      · have HT8 := Lib.hid (show t7 = (if t7.e = 0 ∧ Tx.key key ≠ 0 then ⟨t7.p, 3⟩ else t7) by rw [if_neg (fun h => he7 h.1)])
        have d7 : ((t7.e : Int) == 0) = false := by simp; omega
        obtain ⟨g0, g1, g2⟩ := Q7.out.2.1.rd
        go_upto_region 15 with (fail)
        clear g0 g1 g2 d7 he7
        have Q8 := Q7
        have e4 : (W7).cell? ⟨w.heap.size + 1 + 1, 8, none⟩ = some (.int .i64 (k1 : Nat)) := Q8.out.2.2.1.cell (j := 8) rfl
        by_cases hk2 : 2 < k1
        · have dk : decide (2 < k1) = true := by simp; omega
          obtain ⟨⟨l, t10⟩, hh⟩ : ∃ R, Rs.one xs 0 1 t7 = R := ⟨_, rfl⟩
          have C1 := CO.out 0 1 _ _ _ Q8.out
          rw [hh] at C1
          have H10 := Lib.hid hh
          clear hh
          go_wp2_with fail
          refine C1.mono ?_
          rintro x w10 hp
          have S10 := Lib.hid (Q8.out.call hp)
          obtain ⟨rfl, -⟩ := hp
          clear C1 Q8
          clear dk e4
          have f := S10.out.2.2.1.frozen 10
          obtain ⟨old, hold⟩ : ∃ old, (w10).cell? ⟨w.heap.size + 1 + 1, 10, none⟩ = some old := ⟨_, S10.out.2.2.1.cell (j := 10) rfl⟩
          have ltE := S10.out.2.2.1.lt
          have P10 := Lib.hid (show RtS A n cap w _ ⟨r, m, c, h, k1, key, l, ⟨#[]⟩⟩ (w10.setCell ⟨w.heap.size + 1 + 1, 10, none⟩ (.int .i64 (l : Nat))) from S10.out.put 10 (.int .i64 (l : Nat)) rfl)
          clear S10
          obtain ⟨⟨n11, t11⟩, hh⟩ : ∃ R, Rs.one xs 1 12 t10 = R := ⟨_, rfl⟩
          have C1 := CO.out 1 12 _ _ _ P10.out
          rw [hh] at C1
          have H11 := Lib.hid hh
          clear hh
          go_wp2_with fail
          refine C1.mono ?_
          rintro x w11 hp
          have S11 := Lib.hid (P10.out.call hp)
          obtain ⟨rfl, -⟩ := hp
          clear C1 P10
          clear f hold ltE
          have L11 : n11 ≤ 255 := by have := Rs.one_lt HX.out 1 12 t10; rw [H11.out] at this; exact this
          obtain ⟨⟨v, t12⟩, hh⟩ : ∃ R, Rs.words xs n11 t11 = R := ⟨_, rfl⟩
          have C1 := CW.out n11 _ _ _ S11.out L11
          rw [hh] at C1
          have H12 := Lib.hid hh
          clear hh
          go_wp2_with fail
          refine C1.mono ?_
          rintro x w12 hp
          have S12 := Lib.hid (S11.out.call hp)
          obtain ⟨rfl, -⟩ := hp
          clear C1 S11
          have f := S12.out.2.2.1.frozen 11
          obtain ⟨old, hold⟩ : ∃ old, (w12).cell? ⟨w.heap.size + 1 + 1, 11, none⟩ = some old := ⟨_, S12.out.2.2.1.cell (j := 11) rfl⟩
          have ltE := S12.out.2.2.1.lt
          have Q12 := Lib.hid (show RtS A n cap w _ ⟨r, m, c, h, k1, key, l, v⟩ (w12.setCell ⟨w.heap.size + 1 + 1, 11, none⟩ (.string v)) from S12.out.put 11 (.string v) rfl)
          clear S12
          go_upto_region 18 with (fail)
          refine wp_named (fun W12 hW => ?_)
          have hW' : W12 = w12.setCell ⟨w.heap.size + 1 + 1, 11, none⟩ (.string v) := hW
          rw [← hW'] at Q12
          clear hW hW' f hold ltE
          have up12 := Lib.hid (show t12.e = 0 → t7.e = 0 from fun h => by
            have a1 : t11.e = 0 := Rs.words_e (xs := xs) (m := n11) (by rw [H12.out]; exact h)
            have a2 : t10.e = 0 := (Rs.one_e (xs := xs) (lo := 1) (hi := 12) (by rw [H11.out]; exact a1)).1
            have a3 : (t7).e = 0 := (Rs.one_e (xs := xs) (lo := 0) (hi := 1) (by rw [H10.out]; exact a2)).1
            exact (fun h => h) a3)
          have rp := Lib.hid (show if 2 < k1 then l = (Rs.one xs 0 1 t7).1 ∧ (v, t12) = Rs.words xs (Rs.one xs 1 12 (Rs.one xs 0 1 t7).2).1 (Rs.one xs 1 12 (Rs.one xs 0 1 t7).2).2 else l = 0 ∧ v = ⟨#[]⟩ ∧ t12 = t7 by
            rw [if_pos hk2, H10.out]; simp only; rw [H11.out]; exact ⟨trivial, H12.out.symm⟩)
          obtain ⟨g0, g1, g2⟩ := Q12.out.2.1.rd
          by_cases he9 : (t12).e = 0
          · have d9 : (((t12).e : Int) != 0) = false := by simp [bne]; omega
            go_upto_region 20 with (fail)
            clear d9
            have hr : r ≤ 4 := rt_r H2.out H3.out HC.out H5.out H6.out H7.out (up12.out he9)
            have hm : m ≤ 1048576 := by have := Rs.num_le xs 1 1048576 t2; rw [show Rs.num xs 1 (1048576 : Nat) t2 = (m, t3) from H3.out] at this; exact this
            have wm : IntKind.i64.wrap ((m : Int) - 1) = (m : Int) - 1 := IntWalk.i64_in _ ⟨by omega, by omega⟩
            have r5 : (r : Int) < 5 := by omega
            have r5' : r < 5 := by omega
            have e0 : (W12).cell? ⟨w.heap.size + 1 + 1, 0, none⟩ = some (.int .i64 (r : Nat)) := Q12.out.2.2.1.cell (j := 0) rfl
            have e1 : (W12).cell? ⟨w.heap.size + 1 + 1, 1, none⟩ = some (.int .i64 (m : Nat)) := Q12.out.2.2.1.cell (j := 1) rfl
            have f := Q12.out.2.2.1.frozen (2 + r)
            obtain ⟨old, hold⟩ : ∃ old, (W12).cell? ⟨w.heap.size + 1 + 1, 2 + r, none⟩ = some old := ⟨_, Q12.out.2.2.1.at_ r5'⟩
            have ltE := Q12.out.2.2.1.lt
            have Q10 := Lib.hid (show RtS A n cap w t12 ⟨r, m, c.set r ((m : Int) - 1), h, k1, key, l, v⟩ ((W12).setCell ⟨w.heap.size + 1 + 1, 2 + r, none⟩ (.int .i64 ((m : Int) - 1))) from Q12.out.put (2 + r) (.int .i64 ((m : Int) - 1)) (by
              match r, r5' with
              | 0, _ | 1, _ | 2, _ | 3, _ | 4, _ => rfl))
            have EM : RtRel xs ⟨r, m, c.set r ((m : Int) - 1), h, k1, key, l, v⟩ (t12).p 0 := ⟨k1, t1, r, t2, m, t3, c, s, h, t5, n6, t6, key, t7, t7, l, v, t12, H1.out, H2.out, H3.out, HC.out, H5.out, H6.out, H7.out, HT8.out, rp.out, by rw [if_pos he9]; exact ⟨rfl, rfl, rfl⟩⟩
            have HE := Lib.hid EM
            clear EM
            go_upto_region 21 with (fail)
            refine wp_named (fun W10 hW => ?_)
            have hW' : W10 = (W12).setCell ⟨w.heap.size + 1 + 1, 2 + r, none⟩ (.int .i64 ((m : Int) - 1)) := hW
            rw [← hW'] at Q10
            clear hW hW' f hold ltE e0 e1 g0 g1 g2 wm
            have K10 := Q10.out.2.2.2.2
            obtain ⟨g0, g1, g2⟩ := Q10.out.2.1.rd
            obtain ⟨b0, b1, b2, b3, b4, b5, b6, b7, b8, b9, b10, b11⟩ := Blk.all W10 Q10.out.2.2.1
            have fr := Q10.out.2.2.2.1.frozen
            obtain ⟨k0, k1', k2, k3, k4, k5, k6, k7, k8, k9, k10, k11⟩ := Blk.all W10 Q10.out.2.2.2.1
            have f0 := fr 0; have f1 := fr 1; have f2 := fr 2; have f3 := fr 3; have f4 := fr 4; have f5 := fr 5; have f6 := fr 6; have f7 := fr 7; have f8 := fr 8; have f9 := fr 9; have f10 := fr 10; have f11 := fr 11
            have ltR := Q10.out.2.2.2.1.lt
            clear fr
            go_region
            go_wp2
            change bodyPost _ _ _ _ _ (put12 W10 w.heap.size ⟨r, m, c.set r ((m : Int) - 1), h, k1, key, l, v⟩).drew
            have K := (put12_blk Q10.out.2.2.2.1 ⟨r, m, c.set r ((m : Int) - 1), h, k1, key, l, v⟩).up (Lex.Up.drew _)
            have BB := (put12_below Q10.out.1 (Nat.le_refl _) ⟨r, m, c.set r ((m : Int) - 1), h, k1, key, l, v⟩).drew
            generalize (put12 W10 w.heap.size ⟨r, m, c.set r ((m : Int) - 1), h, k1, key, l, v⟩).drew = W3 at *
            obtain ⟨j0, j1, j2, j3, j4, j5, j6, j7, j8, j9, j10, j11⟩ := Blk.all W3 K
            exact bodyPost_ret (v := .tuple #[Ev.val ⟨r, m, c.set r ((m : Int) - 1), h, k1, key, l, v⟩, .int .i64 (((t12).p : Nat) : Int), .int .i64 ((0 : Nat) : Int)]) (by simp [results, Try.results85, go_sem, Ev.val, Ev.zero, Ck.zero, j0, j1, j2, j3, j4, j5, j6, j7, j8, j9, j10, j11]) rfl ⟨⟨r, m, c.set r ((m : Int) - 1), h, k1, key, l, v⟩, (t12).p, 0, rfl, K10, HE.out, BB⟩
          · have d9 : (((t12).e : Int) != 0) = true := by simp [bne]; omega
            go_upto_region 19 with (fail)
            have EM : RtRel xs Ev.zero 0 (t12).e := ⟨k1, t1, r, t2, m, t3, c, s, h, t5, n6, t6, key, t7, t7, l, v, t12, H1.out, H2.out, H3.out, HC.out, H5.out, H6.out, H7.out, HT8.out, rp.out, by rw [if_neg he9]; exact ⟨rfl, rfl, rfl⟩⟩
            have HE := Lib.hid EM
            clear EM
            have fr := Q12.out.2.2.2.1.frozen
            obtain ⟨k0, k1', k2, k3, k4, k5, k6, k7, k8, k9, k10, k11⟩ := Blk.all W12 Q12.out.2.2.2.1
            have f0 := fr 0; have f1 := fr 1; have f2 := fr 2; have f3 := fr 3; have f4 := fr 4; have f5 := fr 5; have f6 := fr 6; have f7 := fr 7; have f8 := fr 8; have f9 := fr 9; have f10 := fr 10; have f11 := fr 11
            have ltR := Q12.out.2.2.2.1.lt
            clear fr
            go_region
            go_wp2
            change bodyPost _ _ _ _ _ (put12 W12 w.heap.size Ev.zero).drew
            have K := (put12_blk Q12.out.2.2.2.1 Ev.zero).up (Lex.Up.drew _)
            have BB := (put12_below Q12.out.1 (Nat.le_refl _) Ev.zero).drew
            generalize (put12 W12 w.heap.size Ev.zero).drew = W3 at *
            obtain ⟨j0, j1, j2, j3, j4, j5, j6, j7, j8, j9, j10, j11⟩ := Blk.all W3 K
            exact bodyPost_ret (v := .tuple #[Ev.val Ev.zero, .int .i64 ((0 : Nat) : Int), .int .i64 (((t12).e : Nat) : Int)]) (by simp [results, Try.results85, go_sem, Ev.val, Ev.zero, Ck.zero, j0, j1, j2, j3, j4, j5, j6, j7, j8, j9, j10, j11]) rfl ⟨Ev.zero, 0, (t12).e, rfl, (Nat.zero_le _), HE.out, BB⟩
        · have dk : decide (2 < k1) = false := by simp; omega
          go_upto_region 18 with (fail)
          clear dk e4
          obtain ⟨g0, g1, g2⟩ := Q8.out.2.1.rd
          by_cases he9 : (t7).e = 0
          · have d9 : (((t7).e : Int) != 0) = false := by simp [bne]; omega
            go_upto_region 20 with (fail)
            clear d9
            have hr : r ≤ 4 := rt_r H2.out H3.out HC.out H5.out H6.out H7.out ((fun h => h) he9)
            have hm : m ≤ 1048576 := by have := Rs.num_le xs 1 1048576 t2; rw [show Rs.num xs 1 (1048576 : Nat) t2 = (m, t3) from H3.out] at this; exact this
            have wm : IntKind.i64.wrap ((m : Int) - 1) = (m : Int) - 1 := IntWalk.i64_in _ ⟨by omega, by omega⟩
            have r5 : (r : Int) < 5 := by omega
            have r5' : r < 5 := by omega
            have e0 : (W7).cell? ⟨w.heap.size + 1 + 1, 0, none⟩ = some (.int .i64 (r : Nat)) := Q8.out.2.2.1.cell (j := 0) rfl
            have e1 : (W7).cell? ⟨w.heap.size + 1 + 1, 1, none⟩ = some (.int .i64 (m : Nat)) := Q8.out.2.2.1.cell (j := 1) rfl
            have f := Q8.out.2.2.1.frozen (2 + r)
            obtain ⟨old, hold⟩ : ∃ old, (W7).cell? ⟨w.heap.size + 1 + 1, 2 + r, none⟩ = some old := ⟨_, Q8.out.2.2.1.at_ r5'⟩
            have ltE := Q8.out.2.2.1.lt
            have Q10 := Lib.hid (show RtS A n cap w t7 ⟨r, m, c.set r ((m : Int) - 1), h, k1, key, 0, ⟨#[]⟩⟩ ((W7).setCell ⟨w.heap.size + 1 + 1, 2 + r, none⟩ (.int .i64 ((m : Int) - 1))) from Q8.out.put (2 + r) (.int .i64 ((m : Int) - 1)) (by
              match r, r5' with
              | 0, _ | 1, _ | 2, _ | 3, _ | 4, _ => rfl))
            have EM : RtRel xs ⟨r, m, c.set r ((m : Int) - 1), h, k1, key, 0, ⟨#[]⟩⟩ (t7).p 0 := ⟨k1, t1, r, t2, m, t3, c, s, h, t5, n6, t6, key, t7, t7, 0, ⟨#[]⟩, t7, H1.out, H2.out, H3.out, HC.out, H5.out, H6.out, H7.out, HT8.out, (by rw [if_neg hk2]; exact ⟨rfl, rfl, rfl⟩), by rw [if_pos he9]; exact ⟨rfl, rfl, rfl⟩⟩
            have HE := Lib.hid EM
            clear EM
            go_upto_region 21 with (fail)
            refine wp_named (fun W10 hW => ?_)
            have hW' : W10 = (W7).setCell ⟨w.heap.size + 1 + 1, 2 + r, none⟩ (.int .i64 ((m : Int) - 1)) := hW
            rw [← hW'] at Q10
            clear hW hW' f hold ltE e0 e1 g0 g1 g2 wm
            have K10 := Q10.out.2.2.2.2
            obtain ⟨g0, g1, g2⟩ := Q10.out.2.1.rd
            obtain ⟨b0, b1, b2, b3, b4, b5, b6, b7, b8, b9, b10, b11⟩ := Blk.all W10 Q10.out.2.2.1
            have fr := Q10.out.2.2.2.1.frozen
            obtain ⟨k0, k1', k2, k3, k4, k5, k6, k7, k8, k9, k10, k11⟩ := Blk.all W10 Q10.out.2.2.2.1
            have f0 := fr 0; have f1 := fr 1; have f2 := fr 2; have f3 := fr 3; have f4 := fr 4; have f5 := fr 5; have f6 := fr 6; have f7 := fr 7; have f8 := fr 8; have f9 := fr 9; have f10 := fr 10; have f11 := fr 11
            have ltR := Q10.out.2.2.2.1.lt
            clear fr
            go_region
            go_wp2
            change bodyPost _ _ _ _ _ (put12 W10 w.heap.size ⟨r, m, c.set r ((m : Int) - 1), h, k1, key, 0, ⟨#[]⟩⟩).drew
            have K := (put12_blk Q10.out.2.2.2.1 ⟨r, m, c.set r ((m : Int) - 1), h, k1, key, 0, ⟨#[]⟩⟩).up (Lex.Up.drew _)
            have BB := (put12_below Q10.out.1 (Nat.le_refl _) ⟨r, m, c.set r ((m : Int) - 1), h, k1, key, 0, ⟨#[]⟩⟩).drew
            generalize (put12 W10 w.heap.size ⟨r, m, c.set r ((m : Int) - 1), h, k1, key, 0, ⟨#[]⟩⟩).drew = W3 at *
            obtain ⟨j0, j1, j2, j3, j4, j5, j6, j7, j8, j9, j10, j11⟩ := Blk.all W3 K
            exact bodyPost_ret (v := .tuple #[Ev.val ⟨r, m, c.set r ((m : Int) - 1), h, k1, key, 0, ⟨#[]⟩⟩, .int .i64 (((t7).p : Nat) : Int), .int .i64 ((0 : Nat) : Int)]) (by simp [results, Try.results85, go_sem, Ev.val, Ev.zero, Ck.zero, j0, j1, j2, j3, j4, j5, j6, j7, j8, j9, j10, j11]) rfl ⟨⟨r, m, c.set r ((m : Int) - 1), h, k1, key, 0, ⟨#[]⟩⟩, (t7).p, 0, rfl, K10, HE.out, BB⟩
          · have d9 : (((t7).e : Int) != 0) = true := by simp [bne]; omega
            go_upto_region 19 with (fail)
            have EM : RtRel xs Ev.zero 0 (t7).e := ⟨k1, t1, r, t2, m, t3, c, s, h, t5, n6, t6, key, t7, t7, 0, ⟨#[]⟩, t7, H1.out, H2.out, H3.out, HC.out, H5.out, H6.out, H7.out, HT8.out, (by rw [if_neg hk2]; exact ⟨rfl, rfl, rfl⟩), by rw [if_neg he9]; exact ⟨rfl, rfl, rfl⟩⟩
            have HE := Lib.hid EM
            clear EM
            have fr := Q8.out.2.2.2.1.frozen
            obtain ⟨k0, k1', k2, k3, k4, k5, k6, k7, k8, k9, k10, k11⟩ := Blk.all W7 Q8.out.2.2.2.1
            have f0 := fr 0; have f1 := fr 1; have f2 := fr 2; have f3 := fr 3; have f4 := fr 4; have f5 := fr 5; have f6 := fr 6; have f7 := fr 7; have f8 := fr 8; have f9 := fr 9; have f10 := fr 10; have f11 := fr 11
            have ltR := Q8.out.2.2.2.1.lt
            clear fr
            go_region
            go_wp2
            change bodyPost _ _ _ _ _ (put12 W7 w.heap.size Ev.zero).drew
            have K := (put12_blk Q8.out.2.2.2.1 Ev.zero).up (Lex.Up.drew _)
            have BB := (put12_below Q8.out.1 (Nat.le_refl _) Ev.zero).drew
            generalize (put12 W7 w.heap.size Ev.zero).drew = W3 at *
            obtain ⟨j0, j1, j2, j3, j4, j5, j6, j7, j8, j9, j10, j11⟩ := Blk.all W3 K
            exact bodyPost_ret (v := .tuple #[Ev.val Ev.zero, .int .i64 ((0 : Nat) : Int), .int .i64 (((t7).e : Nat) : Int)]) (by simp [results, Try.results85, go_sem, Ev.val, Ev.zero, Ck.zero, j0, j1, j2, j3, j4, j5, j6, j7, j8, j9, j10, j11]) rfl ⟨Ev.zero, 0, (t7).e, rfl, (Nat.zero_le _), HE.out, BB⟩
end Go.Proofs.Ythgfbnkggdlokaa
