/-
  The walk of book.Size.
-/
import Derived.Test.YtolpfchnfhdhkaaOfb
import Derived.Laws.EntriesVeiled
namespace Go.Proofs.Ytolpfchnfhdhkaa
open Go.RowKit
set_option maxRecDepth 100000
set_option maxRecDepth 100000

namespace Bk
/-- What a later one stands for. -/
def cov (es : List Ev) (e : Ev) : Bool := if e.k = 1 then false else underC es e.k e
def kept (es : List Ev) (e : Ev) : Bool := cnt es e && !cov es e
def size (es : List Ev) : Nat := (es.filter (kept es)).length
def sizeTo (es : List Ev) (k : Nat) : Nat := ((es.take k).filter (kept es)).length
theorem sizeTo_le (es : List Ev) (k : Nat) : sizeTo es k ≤ k := Nat.le_trans (List.length_filter_le _ _) (by rw [List.length_take]; omega)
theorem sizeTo_succ {es : List Ev} {k : Nat} (h : k < es.length) : sizeTo es (k + 1) = sizeTo es k + if kept es (Ev.nth es k) then 1 else 0 := by
  unfold sizeTo
  rw [ev_take h, filt_add]
  split
  · simp
  · simp
end Bk
def SizRel (es : List Ev) (s bm bs b0 b1 : Nat) (W : World) (v3 v : Value) (wr : World) : Prop :=
  ∃ k : Nat, k ≤ es.length ∧ v = .int .i64 k ∧ v3 = .int .i64 (Bk.sizeTo es k : Nat) ∧ Hid (Rul wr s bm bs b0 b1 es) ∧ Hid (Below s W wr)

set_option maxHeartbeats 12800000 in
theorem size_any (es : List Ev) (A : Option Addr) (n cap : Nat) (w : World) (h : EvSl w A n cap es) (hn : n ≤ 1000000) :
    Calls Try.prog 35 #[.slice A n cap] w fun x w' => x = .returned (.int .i64 (Bk.size es : Nat)) ∧ Lex.Up w w' := by
  have en1 := enters_of Try.func91 (by kernel_rfl) rfl
  have en2 := enters_of Try.func92 (by kernel_rfl) rfl
  have en3 := enters_of Try.func94 (by kernel_rfl) rfl
  have en4 := enters_of Try.func95 (by kernel_rfl) rfl
  have en5 := enters_of Try.func98 (by kernel_rfl) rfl
  have en6 := enters_of Try.func99 (by kernel_rfl) rfl
  have SL := Lib.hid (fun w' (hu : Lex.Up w w') => EvSl.up h hu)
  have AD := Lib.hid h.addr
  have hl := h.len
  have hlim := h.lim
  have HL := Lib.hid hl
  have HE := Lib.hid (show Bk.sizeTo es n = Bk.size es by unfold Bk.sizeTo Bk.size; rw [← hl, List.take_length])
  have C1 := Lib.hid (rulesOf_any es A n cap w h)
  have STL := Lib.hid (Bk.sizeTo_le es)
  clear h hl
  go_enter Try.func35, Try.ntmps35
  go_wp2_with fail
  refine C1.out.mono ?_
  rintro x w1 ⟨bm, bs, b0, b1, rfl, hr, hu⟩
  have R1 := Lib.hid hr
  have U1 := Lib.hid (show Below w.heap.size w w1 from hu)
  clear hr hu C1
  go_wp2
  go_loopw [3, 13] (fun v3 v wr => SizRel es w.heap.size bm bs b0 b1 w v3 v wr) (fun _ v _ => n - (intOf v).toNat)
  case atStart => exact ⟨0, by omega, rfl, rfl, R1, U1⟩
  case round =>
    obtain ⟨k, hk, rfl, rfl, RR, UU⟩ := hrel
    rw [HL.out] at hk
    clear R1 U1
    have hst := STL.out k
    by_cases h5 : k < n
    · have h5' : (k : Int) < n := by omega
      obtain ⟨b, off, rfl⟩ := AD.out (by omega)
      obtain ⟨e0, e1, e2, e3, e4, e5, e6, e7, e8, e9, e10, e11⟩ := ev_at (SL.out wr UU.out) h5
      have TK := Lib.hid (Bk.sizeTo_succ (es := es) (k := k) (by rw [HL.out]; exact h5))
      generalize Ev.nth es k = e at e0 e1 e2 e3 e4 e5 e6 e7 e8 e9 e10 e11 TK
      have hbw : w.heap.size ≤ wr.heap.size := UU.out.size
      go_upto_region 6 with (fail)
      refine wp_named (fun W5 hW => ?_)
      have up5 : Lex.Up wr W5 := by rw [hW]; exact (Below.refl _ _).alloc (Nat.le_refl _) _
      have E5 := Lib.hid (show Blk W5 wr.heap.size e.cells 39 by rw [hW]; exact Blk.new wr e.cells 39)
      have R5 := Lib.hid (RR.out.up up5)
      have U5 := Lib.hid (show Below w.heap.size w W5 from Below.trans UU.out (up5.mono hbw))
      have lt5 := E5.out.lt
      clear hW up5 RR UU e0 e1 e2 e3 e4 e5 e6 e7 e8 e9 e10 e11
      obtain ⟨a0, a1, a2, a3, a4, a5, a6, a7, a8, a9, a10, a11⟩ := E5.out.e12
      have lk := R5.out.look e.k
      by_cases k1 : e.k = 1
      · have hr : Bk.ruleOf bs b0 b1 e.k = Bk.rule1 b0 b1 := by rw [k1]; rfl
        have hd : Bk.ruled e.k = true := by rw [k1]; rfl
        rw [hr, hd] at lk
        unfold Bk.rule1 Bk.sg at lk
        have K1 := Lib.hid k1
        have hcv : Bk.cov es e = false := by unfold Bk.cov; rw [if_pos k1]
        clear hr hd k1
        have CN := Lib.hid (fun w' (hr : Rul w' w.heap.size bm bs b0 b1 es) => cnt1_any w.heap.size bm bs b0 b1 es e w' hr K1.out)
        have CV := Lib.hid (show ∀ w', Rul w' w.heap.size bm bs b0 b1 es → _ from fun w' hr => (show Calls Try.prog 92 #[e.val] w' fun x w'' => x = .returned (.bool (Bk.cov es e)) ∧ Lex.Up w' w'' from by rw [hcv]; exact never_any e w'))
        have hbr : Lex.Up W5 (W5.alloc (.cells (Bk.rule1 b0 b1).cells 96)) := (Below.refl _ _).alloc (Nat.le_refl _) _
        have z5 := U5.out.size
        have CVV := Lib.hid (show Bk.cov es e = _ from rfl)
        go_wp2_with fail
        refine (CN.out _ (R5.out.up hbr)).mono ?_
        rintro x w6 ⟨rfl, hb⟩
        have hu6 : Lex.Up W5 w6 := Below.trans hbr (hb.mono hbr.size)
        have E6 := Lib.hid (E5.out.up hu6)
        have R9 := Lib.hid (R5.out.up hu6)
        have F6 := Lib.hid (show Blk w6 W5.heap.size (Bk.rule1 b0 b1).cells 96 from (Blk.new W5 (Bk.rule1 b0 b1).cells 96).up hb)
        have U9 := Lib.hid (show Below w.heap.size w w6 from Below.trans U5.out (hu6.mono z5))
        have z6 := hu6.size
        clear hbr hb hu6 E5 R5 U5 CN a0 a1 a2 a3 a4 a5 a6 a7 a8 a9 a10 a11 lk
        obtain ⟨a0, a1, a2, a3, a4, a5, a6, a7, a8, a9, a10, a11⟩ := E6.out.e12
        cases hc : Bk.cnt es e
        · have SZ2 : Bk.sizeTo es (k + 1) = Bk.sizeTo es k := by rw [TK.out]; unfold Bk.kept; rw [hc]; rfl
          have SZH := Lib.hid SZ2
          clear hc SZ2 CV TK
          go_wp2
          go_roundw
          case rel => exact ⟨k + 1, by rw [HL.out]; omega, by go_num, by rw [SZH.out], R9, U9⟩
          case measure => simp [intOf]; omega
        have HC := Lib.hid hc
        clear hc
        have f2 : w6.cell? ⟨W5.heap.size, 1, none⟩ = some _ := F6.out.cell (j := 1) rfl
        dsimp only [Bk.rule1, Bk.rule3, Bk.rule4, Value.cells] at f2
        go_wp2_with fail
        refine (CV.out _ R9.out).mono ?_
        rintro x w7 ⟨rfl, hb⟩
        have R7 := Lib.hid (R9.out.up hb)
        have U7 := Lib.hid (show Below w.heap.size w w7 from Below.trans U9.out (hb.mono U9.out.size))
        clear hb R9 U9 CV f2 a0 a1 a2 a3 a4 a5 a6 a7 a8 a9 a10 a11
        cases hv : Bk.cov es e
        · have SZH := Lib.hid (show Bk.sizeTo es (k + 1) = Bk.sizeTo es k + 1 by rw [TK.out]; unfold Bk.kept; rw [HC.out, hv]; rfl)
          clear hv TK HC CVV
          go_wp2
          go_roundw
          case rel => exact ⟨k + 1, by rw [HL.out]; omega, by go_num, by rw [SZH.out]; simp, R7, U7⟩
          case measure => simp [intOf]; omega
        · have SZH := Lib.hid (show Bk.sizeTo es (k + 1) = Bk.sizeTo es k by rw [TK.out]; unfold Bk.kept; rw [HC.out, hv]; rfl)
          clear hv TK HC CVV
          go_wp2
          go_roundw
          case rel => exact ⟨k + 1, by rw [HL.out]; omega, by go_num, by rw [SZH.out], R7, U7⟩
          case measure => simp [intOf]; omega
      by_cases k3 : e.k = 3
      · have hr : Bk.ruleOf bs b0 b1 e.k = Bk.rule3 bs b0 b1 := by rw [k3]; rfl
        have hd : Bk.ruled e.k = true := by rw [k3]; rfl
        rw [hr, hd] at lk
        unfold Bk.rule3 Bk.sg at lk
        have K1 := Lib.hid k3
        have hcv : Bk.cov es e = Bk.underC es 3 e := by unfold Bk.cov; rw [if_neg k1, k3]
        clear hr hd k3 k1
        have CN := Lib.hid (fun w' (hr : Rul w' w.heap.size bm bs b0 b1 es) => cnt3_any w.heap.size bm bs b0 b1 es e w' hr K1.out)
        have CV := Lib.hid (show ∀ w', Rul w' w.heap.size bm bs b0 b1 es → _ from fun w' hr => (show Calls Try.prog 95 #[e.val, .pointer (some ⟨bs, 0, none⟩)] w' fun x w'' => x = .returned (.bool (Bk.cov es e)) ∧ Lex.Up w' w'' from by rw [hcv]; exact cov3_any bs b0 b1 es e w' hr.s hr.g))
        have hbr : Lex.Up W5 (W5.alloc (.cells (Bk.rule3 bs b0 b1).cells 96)) := (Below.refl _ _).alloc (Nat.le_refl _) _
        have z5 := U5.out.size
        have CVV := Lib.hid (show Bk.cov es e = _ from rfl)
        go_wp2_with fail
        refine (CN.out _ (R5.out.up hbr)).mono ?_
        rintro x w6 ⟨rfl, hb⟩
        have hu6 : Lex.Up W5 w6 := Below.trans hbr (hb.mono hbr.size)
        have E6 := Lib.hid (E5.out.up hu6)
        have R9 := Lib.hid (R5.out.up hu6)
        have F6 := Lib.hid (show Blk w6 W5.heap.size (Bk.rule3 bs b0 b1).cells 96 from (Blk.new W5 (Bk.rule3 bs b0 b1).cells 96).up hb)
        have U9 := Lib.hid (show Below w.heap.size w w6 from Below.trans U5.out (hu6.mono z5))
        have z6 := hu6.size
        clear hbr hb hu6 E5 R5 U5 CN a0 a1 a2 a3 a4 a5 a6 a7 a8 a9 a10 a11 lk
        obtain ⟨a0, a1, a2, a3, a4, a5, a6, a7, a8, a9, a10, a11⟩ := E6.out.e12
        cases hc : Bk.cnt es e
        · have SZ2 : Bk.sizeTo es (k + 1) = Bk.sizeTo es k := by rw [TK.out]; unfold Bk.kept; rw [hc]; rfl
          have SZH := Lib.hid SZ2
          clear hc SZ2 CV TK
          go_wp2
          go_roundw
          case rel => exact ⟨k + 1, by rw [HL.out]; omega, by go_num, by rw [SZH.out], R9, U9⟩
          case measure => simp [intOf]; omega
        have HC := Lib.hid hc
        clear hc
        have f2 : w6.cell? ⟨W5.heap.size, 1, none⟩ = some _ := F6.out.cell (j := 1) rfl
        dsimp only [Bk.rule1, Bk.rule3, Bk.rule4, Value.cells] at f2
        go_wp2_with fail
        refine (CV.out _ R9.out).mono ?_
        rintro x w7 ⟨rfl, hb⟩
        have R7 := Lib.hid (R9.out.up hb)
        have U7 := Lib.hid (show Below w.heap.size w w7 from Below.trans U9.out (hb.mono U9.out.size))
        clear hb R9 U9 CV f2 a0 a1 a2 a3 a4 a5 a6 a7 a8 a9 a10 a11
        cases hv : Bk.cov es e
        · have SZH := Lib.hid (show Bk.sizeTo es (k + 1) = Bk.sizeTo es k + 1 by rw [TK.out]; unfold Bk.kept; rw [HC.out, hv]; rfl)
          clear hv TK HC CVV
          go_wp2
          go_roundw
          case rel => exact ⟨k + 1, by rw [HL.out]; omega, by go_num, by rw [SZH.out]; simp, R7, U7⟩
          case measure => simp [intOf]; omega
        · have SZH := Lib.hid (show Bk.sizeTo es (k + 1) = Bk.sizeTo es k by rw [TK.out]; unfold Bk.kept; rw [HC.out, hv]; rfl)
          clear hv TK HC CVV
          go_wp2
          go_roundw
          case rel => exact ⟨k + 1, by rw [HL.out]; omega, by go_num, by rw [SZH.out], R7, U7⟩
          case measure => simp [intOf]; omega
      by_cases k4 : e.k = 4
      · have hr : Bk.ruleOf bs b0 b1 e.k = Bk.rule4 bs := by rw [k4]; rfl
        have hd : Bk.ruled e.k = true := by rw [k4]; rfl
        rw [hr, hd] at lk
        unfold Bk.rule4 at lk
        have K1 := Lib.hid k4
        have hcv : Bk.cov es e = Bk.underC es 4 e := by unfold Bk.cov; rw [if_neg k1, k4]
        clear hr hd k4 k3 k1
        have CN := Lib.hid (fun w' (hr : Rul w' w.heap.size bm bs b0 b1 es) => cnt4b_any w.heap.size bm bs b0 b1 es e w' hr K1.out)
        have CV := Lib.hid (show ∀ w', Rul w' w.heap.size bm bs b0 b1 es → _ from fun w' hr => (show Calls Try.prog 99 #[e.val, .pointer (some ⟨bs, 0, none⟩)] w' fun x w'' => x = .returned (.bool (Bk.cov es e)) ∧ Lex.Up w' w'' from by rw [hcv]; exact cov4_any bs b0 b1 es e w' hr.s hr.g))
        have hbr : Lex.Up W5 (W5.alloc (.cells (Bk.rule4 bs).cells 96)) := (Below.refl _ _).alloc (Nat.le_refl _) _
        have z5 := U5.out.size
        have CVV := Lib.hid (show Bk.cov es e = _ from rfl)
        go_wp2_with fail
        refine (CN.out _ (R5.out.up hbr)).mono ?_
        rintro x w6 ⟨rfl, hb⟩
        have hu6 : Lex.Up W5 w6 := Below.trans hbr (hb.mono hbr.size)
        have E6 := Lib.hid (E5.out.up hu6)
        have R9 := Lib.hid (R5.out.up hu6)
        have F6 := Lib.hid (show Blk w6 W5.heap.size (Bk.rule4 bs).cells 96 from (Blk.new W5 (Bk.rule4 bs).cells 96).up hb)
        have U9 := Lib.hid (show Below w.heap.size w w6 from Below.trans U5.out (hu6.mono z5))
        have z6 := hu6.size
        clear hbr hb hu6 E5 R5 U5 CN a0 a1 a2 a3 a4 a5 a6 a7 a8 a9 a10 a11 lk
        obtain ⟨a0, a1, a2, a3, a4, a5, a6, a7, a8, a9, a10, a11⟩ := E6.out.e12
        cases hc : Bk.cnt es e
        · have SZ2 : Bk.sizeTo es (k + 1) = Bk.sizeTo es k := by rw [TK.out]; unfold Bk.kept; rw [hc]; rfl
          have SZH := Lib.hid SZ2
          clear hc SZ2 CV TK
          go_wp2
          go_roundw
          case rel => exact ⟨k + 1, by rw [HL.out]; omega, by go_num, by rw [SZH.out], R9, U9⟩
          case measure => simp [intOf]; omega
        have HC := Lib.hid hc
        clear hc
        have f2 : w6.cell? ⟨W5.heap.size, 1, none⟩ = some _ := F6.out.cell (j := 1) rfl
        dsimp only [Bk.rule1, Bk.rule3, Bk.rule4, Value.cells] at f2
        go_wp2_with fail
        refine (CV.out _ R9.out).mono ?_
        rintro x w7 ⟨rfl, hb⟩
        have R7 := Lib.hid (R9.out.up hb)
        have U7 := Lib.hid (show Below w.heap.size w w7 from Below.trans U9.out (hb.mono U9.out.size))
        clear hb R9 U9 CV f2 a0 a1 a2 a3 a4 a5 a6 a7 a8 a9 a10 a11
        cases hv : Bk.cov es e
        · have SZH := Lib.hid (show Bk.sizeTo es (k + 1) = Bk.sizeTo es k + 1 by rw [TK.out]; unfold Bk.kept; rw [HC.out, hv]; rfl)
          clear hv TK HC CVV
          go_wp2
          go_roundw
          case rel => exact ⟨k + 1, by rw [HL.out]; omega, by go_num, by rw [SZH.out]; simp, R7, U7⟩
          case measure => simp [intOf]; omega
        · have SZH := Lib.hid (show Bk.sizeTo es (k + 1) = Bk.sizeTo es k by rw [TK.out]; unfold Bk.kept; rw [HC.out, hv]; rfl)
          clear hv TK HC CVV
          go_wp2
          go_roundw
          case rel => exact ⟨k + 1, by rw [HL.out]; omega, by go_num, by rw [SZH.out], R7, U7⟩
          case measure => simp [intOf]; omega
      · have hr : Bk.ruleOf bs b0 b1 e.k = Bk.norule := by
          unfold Bk.ruleOf Bk.rules
          simp only [Gm.get_cons, Gm.get_nil, k1, k3, k4, if_false]
          rfl
        have hd : Bk.ruled e.k = false := by simp [Bk.ruled, k1, k3, k4]
        rw [hr, hd] at lk
        unfold Bk.norule at lk
        have hc : Bk.cnt es e = false := by unfold Bk.cnt; rw [if_neg k1, if_neg k3, if_neg k4]
        have SZH := Lib.hid (show Bk.sizeTo es (k + 1) = Bk.sizeTo es k by rw [TK.out]; unfold Bk.kept; rw [hc]; rfl)
        have hbr : Lex.Up W5 (W5.alloc (.cells Bk.norule.cells 96)) := (Below.refl _ _).alloc (Nat.le_refl _) _
        have R6 := Lib.hid (R5.out.up hbr)
        have U6 := Lib.hid (show Below w.heap.size w (W5.alloc (.cells Bk.norule.cells 96)) from Below.trans U5.out (hbr.mono U5.out.size))
        clear hr hd hc hbr k1 k3 k4 R5 U5 TK
        go_wp2
        go_roundw
        case rel => exact ⟨k + 1, by rw [HL.out]; omega, by go_num, by rw [SZH.out], R6, U6⟩
        case measure => simp [intOf]; omega
    · obtain rfl : k = n := by omega
      have HE2 := Lib.hid HE.out
      rw [HE.out]
      clear en1 en2 en3 en4 en5 en6
      go_wp2
      go_ret
      exact ⟨rfl, UU.out⟩
end Go.Proofs.Ytolpfchnfhdhkaa
