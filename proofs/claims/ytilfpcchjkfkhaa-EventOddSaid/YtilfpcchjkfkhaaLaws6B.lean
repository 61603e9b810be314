/-
  The walk of EventOdd.
-/
import Derived.Test.YtilfpcchjkfkhaaLaws6A
import Derived.Laws.Concat
namespace Go.Proofs.Ytilfpcchjkfkhaa
open Go.RowKit

theorem at_more (s : ByteArray) : Tx.at_ (s ++ ⟨#[33]⟩) s.size = 33 := by
  have h : s.size < (s ++ (⟨#[33]⟩ : ByteArray)).size := by rw [ByteArray.size_append]; show s.size < s.size + 1; omega
  rw [← Tx.get_at_ _ _ h]
  have : (s ++ (⟨#[33]⟩ : ByteArray))[s.size]'h = 33 := by
    rw [ByteArray.getElem_append_right (Nat.le_refl _)]
    simp
    rfl
  rw [this]; rfl
namespace Ev
theorem may_one {e : Ev} (h : ¬ ((0 ≤ e.r ∧ e.r < 5 ∧ 1 ≤ e.n ∧ e.n ≤ 1048576) ∧ (∀ j, j < 5 → 0 ≤ e.c.get j ∧ e.c.get j ≤ 1048576) ∧ e.c.get e.r.toNat = e.n - 1 ∧ 1 ≤ e.h ∧ e.h ≤ 16777216)) : may e = 1 := by
  unfold may
  rw [if_neg]
  rintro ⟨g1, g2, g3, g4⟩
  rw [seen_iff] at g2
  simp only [mark, high, decide_eq_true_eq] at g1 g4
  exact h ⟨g1, g2, g3, g4⟩
theorem may_ed {e y : Ev} (g : Good y) (h1 : e.r = y.r) (h2 : e.n = y.n) (h3 : e.c = y.c) (h4 : e.h = y.h) : may e = Tx.edit e.ed := by
  unfold may
  rw [h1, h2, h3, h4, if_pos]
  refine ⟨?_, (seen_iff _).2 g.c, g.own, ?_⟩
  · simp only [mark, decide_eq_true_eq]; exact ⟨g.r0, g.r5, g.n1, g.nM⟩
  · simp only [high, decide_eq_true_eq]; exact ⟨g.h1, g.hM⟩
theorem odd_key {y : Ev} (g : Good y) : may { y with key := y.key ++ ⟨#[33]⟩ } = 10 := by
  rw [may_ed (e := { y with key := y.key ++ ⟨#[33]⟩ }) g rfl rfl rfl rfl]
  obtain ⟨E1, E5, EK, EB, EF⟩ := edit_zero g.ed
  simp only [ed] at E1 E5 ⊢
  have hk : Tx.key (y.key ++ ⟨#[33]⟩) = 10 := Tx.key_bad (j := y.key.size) (by rw [ByteArray.size_append]; show y.key.size < y.key.size + 1; omega) (by rw [at_more]; omega)
  unfold Tx.edit
  simp only
  rw [if_neg (by omega), hk, if_pos (by decide)]
theorem odd_label {y : Ev} (g : Good y) : may { y with l := 2 } = 11 := by
  rw [may_ed (e := { y with l := 2 }) g rfl rfl rfl rfl]
  obtain ⟨E1, E5, EK, EB, EF⟩ := edit_zero g.ed
  simp only [ed] at E1 E5 EK ⊢
  unfold Tx.edit Tx.bareOf Tx.fullOf
  simp only
  rw [if_neg (by omega), if_neg (by simpa using EK)]
  split
  · rw [if_pos (by decide)]
  · rw [if_pos (by decide)]; rfl
theorem odd_value {y : Ev} (g : Good y) (s : ByteArray) (hs : s.size = 13) : may { y with v := s } = 12 := by
  rw [may_ed (e := { y with v := s }) g rfl rfl rfl rfl]
  obtain ⟨E1, E5, EK, EB, EF⟩ := edit_zero g.ed
  simp only [ed] at E1 E5 EK EB EF ⊢
  unfold Tx.edit Tx.bareOf Tx.fullOf
  simp only
  rw [if_neg (by omega), if_neg (by simpa using EK)]
  split
  · rename_i h
    rw [if_neg (by simpa using (EB h).1), if_pos (by omega)]
  · rename_i h
    have : Tx.label y.l = 0 := by rw [Tx.label, if_pos (EF h).1]
    rw [this, if_neg (by decide), Tx.value, if_neg (by omega)]
theorem odd_r {y : Ev} : may { y with r := 5 } = 1 := may_one fun h => by have := h.1.2.1; simp at this
theorem odd_n {y : Ev} (g : Good y) : may { y with n := y.n + 1 } = 1 := may_one fun h => by have := h.2.2.1; have h2 := g.own; simp only at this; omega
theorem odd_c {y : Ev} {j : Nat} (hj : j < 5) : may { y with c := y.c.set j (-1) } = 1 := may_one fun h => by
  have := (h.2.1 j hj).1
  simp only at this
  rw [Ck.set_get _ _ _ _ hj, if_pos rfl] at this
  omega
theorem odd_h {y : Ev} {x : Int} (hx : x < 1 ∨ 16777216 < x) : may { y with h := x } = 1 := may_one fun h => by have := h.2.2.2; simp only at this; omega
end Ev

set_option maxRecDepth 100000 in
set_option maxHeartbeats 4000000 in
theorem law_odd (a : Ev) (m : Nat) (w : World) (hm : m < 256) (h1 : a.key.size ≤ 140737488351232) (h2 : a.v.size ≤ 140737488351232) :
    Calls Try.prog 7 #[a.val, .int .u8 m] w fun e w' => e = .returned (.bool true) ∧ Below w.heap.size w w' := by
  have C0 := Lib.hid (fun w => shown_any w)
  have CA := Lib.hid (fun w => fit6_any a w h1 h2)
  have CP := Lib.hid (fun x w h1 h2 => eput_any x w h1 h2)
  have CM := Lib.hid (fun x w h1 h2 => may_any x w h1 h2)
  clear h1 h2
  have KA := Lib.hid (Blk.new w a.cells 25)
  have U0 := Lib.hid (show Below w.heap.size w (w.alloc (.cells a.cells 25)) from (Below.refl w.heap.size w).alloc (Nat.le_refl _) _)
  unfold Ev.val at *
  go_enter Try.func7, Try.ntmps7
  go_wp2_with fail
  refine (C0.out _).mono ?_
  rintro e w1 ⟨rfl, hb1⟩
  have KA1 := Lib.hid (KA.out.up hb1); have U1 := Lib.hid (U0.out.trans (hb1.mono U0.out.size))
  clear KA U0 hb1
  obtain ⟨k0, k1, k2, k3, k4, k5, k6, k7, k8, k9, k10, k11⟩ := Blk.all w1 KA1.out
  go_wp2_with fail
  refine (CA.out _).mono ?_
  rintro e w2 ⟨x, hx, rfl, hb2⟩
  have KX := Lib.hid (Blk.new w2 x.cells 25)
  have U2 := Lib.hid (U1.out.trans (hb2.mono U1.out.size))
  have UX := Lib.hid (show Below w.heap.size w (w2.alloc (.cells x.cells 25)) from U2.out.alloc U2.out.size _)
  clear k0 k1 k2 k3 k4 k5 k6 k7 k8 k9 k10 k11 KA1 U1 hb2 C0 CA
  simp only
  have G0 := hx.r0; have G1 := hx.r5; have G2 := hx.n1; have G3 := hx.nM
  have HX := Lib.hid hx
  clear hx
  have hr : (m : Int).tmod 8 = ((m % 8 : Nat) : Int) := by rw [Int.tmod_eq_emod_of_nonneg (by omega)]; omega
  have h8 : m % 8 < 8 := Nat.mod_lt _ (by decide)
  generalize m % 8 = t at *
  have h9 : t = 0 ∨ t = 1 ∨ t = 2 ∨ t = 3 ∨ t = 4 ∨ t = 5 ∨ t = 6 ∨ t = 7 := by omega
  clear h8
  rcases h9 with rfl | rfl | rfl | rfl | rfl | rfl | rfl | rfl
  · go_upto_region 23 with (fail)
    refine wp_named (fun W hW => ?_)
    have KW := Lib.hid (show Blk W w2.heap.size (Ev.cells { x with r := 5 }) 25 by rw [hW]; first | exact Blk.new w2 (Ev.cells { x with r := 5 }) _ | exact KX.out.set 0 (.int .i64 5))
    have UW := Lib.hid (show Below w.heap.size w W by
      rw [hW]
      first | exact U2.out.alloc U2.out.size _ | exact UX.out.setCell (by have := U2.out.size; simp; omega) _)
    clear hW UX KX
    have HM := Lib.hid (show Ev.may { x with r := 5 } = 1 from Ev.odd_r)
    have CPX := Lib.hid (fun w => CP.out { x with r := 5 } w (by simp only; omega) (by simp only; omega))
    have CMX := Lib.hid (fun w => CM.out { x with r := 5 } w (by simp only; omega) (by simp only; omega))
    have HL := Lib.hid (show Ev.out { x with r := 5 } = [] by unfold Ev.out; rw [HM.out]; rfl)
    rw [HM.out] at CPX CMX
    rw [HL.out] at CPX
    clear CP CM HM HL
    generalize hE : ({ x with r := 5 } : Ev) = E at *
    obtain ⟨k0, k1, k2, k3, k4, k5, k6, k7, k8, k9, k10, k11⟩ := Blk.all W KW.out
    go_wp2_with fail
    clear k0 k1 k2 k3 k4 k5 k6 k7 k8 k9 k10 k11
    refine (CPX.out _).mono ?_
    rintro e w4 ⟨v, rfl, hown, hb4⟩
    have UV := Lib.hid (UW.out.trans (hb4.mono UW.out.size))
    obtain ⟨A, cap, rfl⟩ := own_form hown
    obtain ⟨k0, k1, k2, k3, k4, k5, k6, k7, k8, k9, k10, k11⟩ := Blk.all w4 (KW.out.up hb4)
    clear hown hb4 CPX UW
    go_wp2_with fail
    clear k0 k1 k2 k3 k4 k5 k6 k7 k8 k9 k10 k11
    refine (CMX.out _).mono ?_
    rintro e w5 ⟨rfl, hb5⟩
    have UU := Lib.hid (UV.out.trans (hb5.mono UV.out.size))
    clear hb5 UV CMX
    go_wp2
    go_ret
    exact ⟨rfl, UU.out⟩
  · have wn : IntKind.i64.wrap (x.n + 1) = x.n + 1 := IntWalk.i64_in _ ⟨by omega, by omega⟩
    have k1 := KX.out.cell (j := 1) rfl
    go_upto_region 23 with (fail)
    refine wp_named (fun W hW => ?_)
    have KW := Lib.hid (show Blk W w2.heap.size (Ev.cells { x with n := x.n + 1 }) 25 by rw [hW]; first | exact Blk.new w2 (Ev.cells { x with n := x.n + 1 }) _ | exact KX.out.set 1 (.int .i64 (x.n + 1)))
    have UW := Lib.hid (show Below w.heap.size w W by
      rw [hW]
      first | exact U2.out.alloc U2.out.size _ | exact UX.out.setCell (by have := U2.out.size; simp; omega) _)
    clear hW UX KX
    have HM := Lib.hid (show Ev.may { x with n := x.n + 1 } = 1 from Ev.odd_n HX.out)
    have CPX := Lib.hid (fun w => CP.out { x with n := x.n + 1 } w (by simp only; omega) (by simp only; omega))
    have CMX := Lib.hid (fun w => CM.out { x with n := x.n + 1 } w (by simp only; omega) (by simp only; omega))
    have HL := Lib.hid (show Ev.out { x with n := x.n + 1 } = [] by unfold Ev.out; rw [HM.out]; rfl)
    rw [HM.out] at CPX CMX
    rw [HL.out] at CPX
    clear CP CM HM HL
    generalize hE : ({ x with n := x.n + 1 } : Ev) = E at *
    obtain ⟨k0, k1, k2, k3, k4, k5, k6, k7, k8, k9, k10, k11⟩ := Blk.all W KW.out
    go_wp2_with fail
    clear k0 k1 k2 k3 k4 k5 k6 k7 k8 k9 k10 k11
    refine (CPX.out _).mono ?_
    rintro e w4 ⟨v, rfl, hown, hb4⟩
    have UV := Lib.hid (UW.out.trans (hb4.mono UW.out.size))
    obtain ⟨A, cap, rfl⟩ := own_form hown
    obtain ⟨k0, k1, k2, k3, k4, k5, k6, k7, k8, k9, k10, k11⟩ := Blk.all w4 (KW.out.up hb4)
    clear hown hb4 CPX UW
    go_wp2_with fail
    clear k0 k1 k2 k3 k4 k5 k6 k7 k8 k9 k10 k11
    refine (CMX.out _).mono ?_
    rintro e w5 ⟨rfl, hb5⟩
    have UU := Lib.hid (UV.out.trans (hb5.mono UV.out.size))
    clear hb5 UV CMX
    go_wp2
    go_ret
    exact ⟨rfl, UU.out⟩
  · have wn : IntKind.i64.wrap (x.r + 1) = x.r + 1 := IntWalk.i64_in _ ⟨by omega, by omega⟩
    obtain ⟨j, hj, hj5⟩ : ∃ j : Nat, (x.r + 1).tmod 5 = j ∧ j < 5 := ⟨((x.r + 1) % 5).toNat, by rw [Int.tmod_eq_emod_of_nonneg (by omega)]; omega, by omega⟩
    have h9 : j = 0 ∨ j = 1 ∨ j = 2 ∨ j = 3 ∨ j = 4 := by omega
    rcases h9 with rfl | rfl | rfl | rfl | rfl
    · go_upto_region 23 with (fail)
      refine wp_named (fun W hW => ?_)
      have KW := Lib.hid (show Blk W w2.heap.size (Ev.cells { x with c := x.c.set 0 (-1) }) 25 by rw [hW]; first | exact Blk.new w2 (Ev.cells { x with c := x.c.set 0 (-1) }) _ | exact KX.out)
      have UW := Lib.hid (show Below w.heap.size w W by
        rw [hW]
        first | exact U2.out.alloc U2.out.size _ | exact UX.out.setCell (by have := U2.out.size; simp; omega) _)
      clear hW UX KX
      have HM := Lib.hid (show Ev.may { x with c := x.c.set 0 (-1) } = 1 from Ev.odd_c hj5)
      have CPX := Lib.hid (fun w => CP.out { x with c := x.c.set 0 (-1) } w (by simp only; omega) (by simp only; omega))
      have CMX := Lib.hid (fun w => CM.out { x with c := x.c.set 0 (-1) } w (by simp only; omega) (by simp only; omega))
      have HL := Lib.hid (show Ev.out { x with c := x.c.set 0 (-1) } = [] by unfold Ev.out; rw [HM.out]; rfl)
      rw [HM.out] at CPX CMX
      rw [HL.out] at CPX
      clear CP CM HM HL
      generalize hE : ({ x with c := x.c.set 0 (-1) } : Ev) = E at *
      obtain ⟨k0, k1, k2, k3, k4, k5, k6, k7, k8, k9, k10, k11⟩ := Blk.all W KW.out
      go_wp2_with fail
      clear k0 k1 k2 k3 k4 k5 k6 k7 k8 k9 k10 k11
      refine (CPX.out _).mono ?_
      rintro e w4 ⟨v, rfl, hown, hb4⟩
      have UV := Lib.hid (UW.out.trans (hb4.mono UW.out.size))
      obtain ⟨A, cap, rfl⟩ := own_form hown
      obtain ⟨k0, k1, k2, k3, k4, k5, k6, k7, k8, k9, k10, k11⟩ := Blk.all w4 (KW.out.up hb4)
      clear hown hb4 CPX UW
      go_wp2_with fail
      clear k0 k1 k2 k3 k4 k5 k6 k7 k8 k9 k10 k11
      refine (CMX.out _).mono ?_
      rintro e w5 ⟨rfl, hb5⟩
      have UU := Lib.hid (UV.out.trans (hb5.mono UV.out.size))
      clear hb5 UV CMX
      go_wp2
      go_ret
      exact ⟨rfl, UU.out⟩
    · go_upto_region 23 with (fail)
      refine wp_named (fun W hW => ?_)
      have KW := Lib.hid (show Blk W w2.heap.size (Ev.cells { x with c := x.c.set 1 (-1) }) 25 by rw [hW]; first | exact Blk.new w2 (Ev.cells { x with c := x.c.set 1 (-1) }) _ | exact KX.out)
      have UW := Lib.hid (show Below w.heap.size w W by
        rw [hW]
        first | exact U2.out.alloc U2.out.size _ | exact UX.out.setCell (by have := U2.out.size; simp; omega) _)
      clear hW UX KX
      have HM := Lib.hid (show Ev.may { x with c := x.c.set 1 (-1) } = 1 from Ev.odd_c hj5)
      have CPX := Lib.hid (fun w => CP.out { x with c := x.c.set 1 (-1) } w (by simp only; omega) (by simp only; omega))
      have CMX := Lib.hid (fun w => CM.out { x with c := x.c.set 1 (-1) } w (by simp only; omega) (by simp only; omega))
      have HL := Lib.hid (show Ev.out { x with c := x.c.set 1 (-1) } = [] by unfold Ev.out; rw [HM.out]; rfl)
      rw [HM.out] at CPX CMX
      rw [HL.out] at CPX
      clear CP CM HM HL
      generalize hE : ({ x with c := x.c.set 1 (-1) } : Ev) = E at *
      obtain ⟨k0, k1, k2, k3, k4, k5, k6, k7, k8, k9, k10, k11⟩ := Blk.all W KW.out
      go_wp2_with fail
      clear k0 k1 k2 k3 k4 k5 k6 k7 k8 k9 k10 k11
      refine (CPX.out _).mono ?_
      rintro e w4 ⟨v, rfl, hown, hb4⟩
      have UV := Lib.hid (UW.out.trans (hb4.mono UW.out.size))
      obtain ⟨A, cap, rfl⟩ := own_form hown
      obtain ⟨k0, k1, k2, k3, k4, k5, k6, k7, k8, k9, k10, k11⟩ := Blk.all w4 (KW.out.up hb4)
      clear hown hb4 CPX UW
      go_wp2_with fail
      clear k0 k1 k2 k3 k4 k5 k6 k7 k8 k9 k10 k11
      refine (CMX.out _).mono ?_
      rintro e w5 ⟨rfl, hb5⟩
      have UU := Lib.hid (UV.out.trans (hb5.mono UV.out.size))
      clear hb5 UV CMX
      go_wp2
      go_ret
      exact ⟨rfl, UU.out⟩
    · go_upto_region 23 with (fail)
      refine wp_named (fun W hW => ?_)
      have KW := Lib.hid (show Blk W w2.heap.size (Ev.cells { x with c := x.c.set 2 (-1) }) 25 by rw [hW]; first | exact Blk.new w2 (Ev.cells { x with c := x.c.set 2 (-1) }) _ | exact KX.out)
      have UW := Lib.hid (show Below w.heap.size w W by
        rw [hW]
        first | exact U2.out.alloc U2.out.size _ | exact UX.out.setCell (by have := U2.out.size; simp; omega) _)
      clear hW UX KX
      have HM := Lib.hid (show Ev.may { x with c := x.c.set 2 (-1) } = 1 from Ev.odd_c hj5)
      have CPX := Lib.hid (fun w => CP.out { x with c := x.c.set 2 (-1) } w (by simp only; omega) (by simp only; omega))
      have CMX := Lib.hid (fun w => CM.out { x with c := x.c.set 2 (-1) } w (by simp only; omega) (by simp only; omega))
      have HL := Lib.hid (show Ev.out { x with c := x.c.set 2 (-1) } = [] by unfold Ev.out; rw [HM.out]; rfl)
      rw [HM.out] at CPX CMX
      rw [HL.out] at CPX
      clear CP CM HM HL
      generalize hE : ({ x with c := x.c.set 2 (-1) } : Ev) = E at *
      obtain ⟨k0, k1, k2, k3, k4, k5, k6, k7, k8, k9, k10, k11⟩ := Blk.all W KW.out
      go_wp2_with fail
      clear k0 k1 k2 k3 k4 k5 k6 k7 k8 k9 k10 k11
      refine (CPX.out _).mono ?_
      rintro e w4 ⟨v, rfl, hown, hb4⟩
      have UV := Lib.hid (UW.out.trans (hb4.mono UW.out.size))
      obtain ⟨A, cap, rfl⟩ := own_form hown
      obtain ⟨k0, k1, k2, k3, k4, k5, k6, k7, k8, k9, k10, k11⟩ := Blk.all w4 (KW.out.up hb4)
      clear hown hb4 CPX UW
      go_wp2_with fail
      clear k0 k1 k2 k3 k4 k5 k6 k7 k8 k9 k10 k11
      refine (CMX.out _).mono ?_
      rintro e w5 ⟨rfl, hb5⟩
      have UU := Lib.hid (UV.out.trans (hb5.mono UV.out.size))
      clear hb5 UV CMX
      go_wp2
      go_ret
      exact ⟨rfl, UU.out⟩
    · go_upto_region 23 with (fail)
      refine wp_named (fun W hW => ?_)
      have KW := Lib.hid (show Blk W w2.heap.size (Ev.cells { x with c := x.c.set 3 (-1) }) 25 by rw [hW]; first | exact Blk.new w2 (Ev.cells { x with c := x.c.set 3 (-1) }) _ | exact KX.out)
      have UW := Lib.hid (show Below w.heap.size w W by
        rw [hW]
        first | exact U2.out.alloc U2.out.size _ | exact UX.out.setCell (by have := U2.out.size; simp; omega) _)
      clear hW UX KX
      have HM := Lib.hid (show Ev.may { x with c := x.c.set 3 (-1) } = 1 from Ev.odd_c hj5)
      have CPX := Lib.hid (fun w => CP.out { x with c := x.c.set 3 (-1) } w (by simp only; omega) (by simp only; omega))
      have CMX := Lib.hid (fun w => CM.out { x with c := x.c.set 3 (-1) } w (by simp only; omega) (by simp only; omega))
      have HL := Lib.hid (show Ev.out { x with c := x.c.set 3 (-1) } = [] by unfold Ev.out; rw [HM.out]; rfl)
      rw [HM.out] at CPX CMX
      rw [HL.out] at CPX
      clear CP CM HM HL
      generalize hE : ({ x with c := x.c.set 3 (-1) } : Ev) = E at *
      obtain ⟨k0, k1, k2, k3, k4, k5, k6, k7, k8, k9, k10, k11⟩ := Blk.all W KW.out
      go_wp2_with fail
      clear k0 k1 k2 k3 k4 k5 k6 k7 k8 k9 k10 k11
      refine (CPX.out _).mono ?_
      rintro e w4 ⟨v, rfl, hown, hb4⟩
      have UV := Lib.hid (UW.out.trans (hb4.mono UW.out.size))
      obtain ⟨A, cap, rfl⟩ := own_form hown
      obtain ⟨k0, k1, k2, k3, k4, k5, k6, k7, k8, k9, k10, k11⟩ := Blk.all w4 (KW.out.up hb4)
      clear hown hb4 CPX UW
      go_wp2_with fail
      clear k0 k1 k2 k3 k4 k5 k6 k7 k8 k9 k10 k11
      refine (CMX.out _).mono ?_
      rintro e w5 ⟨rfl, hb5⟩
      have UU := Lib.hid (UV.out.trans (hb5.mono UV.out.size))
      clear hb5 UV CMX
      go_wp2
      go_ret
      exact ⟨rfl, UU.out⟩
    · go_upto_region 23 with (fail)
      refine wp_named (fun W hW => ?_)
      have KW := Lib.hid (show Blk W w2.heap.size (Ev.cells { x with c := x.c.set 4 (-1) }) 25 by rw [hW]; first | exact Blk.new w2 (Ev.cells { x with c := x.c.set 4 (-1) }) _ | exact KX.out)
      have UW := Lib.hid (show Below w.heap.size w W by
        rw [hW]
        first | exact U2.out.alloc U2.out.size _ | exact UX.out.setCell (by have := U2.out.size; simp; omega) _)
      clear hW UX KX
      have HM := Lib.hid (show Ev.may { x with c := x.c.set 4 (-1) } = 1 from Ev.odd_c hj5)
      have CPX := Lib.hid (fun w => CP.out { x with c := x.c.set 4 (-1) } w (by simp only; omega) (by simp only; omega))
      have CMX := Lib.hid (fun w => CM.out { x with c := x.c.set 4 (-1) } w (by simp only; omega) (by simp only; omega))
      have HL := Lib.hid (show Ev.out { x with c := x.c.set 4 (-1) } = [] by unfold Ev.out; rw [HM.out]; rfl)
      rw [HM.out] at CPX CMX
      rw [HL.out] at CPX
      clear CP CM HM HL
      generalize hE : ({ x with c := x.c.set 4 (-1) } : Ev) = E at *
      obtain ⟨k0, k1, k2, k3, k4, k5, k6, k7, k8, k9, k10, k11⟩ := Blk.all W KW.out
      go_wp2_with fail
      clear k0 k1 k2 k3 k4 k5 k6 k7 k8 k9 k10 k11
      refine (CPX.out _).mono ?_
      rintro e w4 ⟨v, rfl, hown, hb4⟩
      have UV := Lib.hid (UW.out.trans (hb4.mono UW.out.size))
      obtain ⟨A, cap, rfl⟩ := own_form hown
      obtain ⟨k0, k1, k2, k3, k4, k5, k6, k7, k8, k9, k10, k11⟩ := Blk.all w4 (KW.out.up hb4)
      clear hown hb4 CPX UW
      go_wp2_with fail
      clear k0 k1 k2 k3 k4 k5 k6 k7 k8 k9 k10 k11
      refine (CMX.out _).mono ?_
      rintro e w5 ⟨rfl, hb5⟩
      have UU := Lib.hid (UV.out.trans (hb5.mono UV.out.size))
      clear hb5 UV CMX
      go_wp2
      go_ret
      exact ⟨rfl, UU.out⟩
  · go_upto_region 23 with (fail)
    refine wp_named (fun W hW => ?_)
    have KW := Lib.hid (show Blk W w2.heap.size (Ev.cells { x with h := 0 }) 25 by rw [hW]; first | exact Blk.new w2 (Ev.cells { x with h := 0 }) _ | exact KX.out)
    have UW := Lib.hid (show Below w.heap.size w W by
      rw [hW]
      first | exact U2.out.alloc U2.out.size _ | exact UX.out.setCell (by have := U2.out.size; simp; omega) _)
    clear hW UX KX
    have HM := Lib.hid (show Ev.may { x with h := 0 } = 1 from Ev.odd_h (.inl (by decide)))
    have CPX := Lib.hid (fun w => CP.out { x with h := 0 } w (by simp only; omega) (by simp only; omega))
    have CMX := Lib.hid (fun w => CM.out { x with h := 0 } w (by simp only; omega) (by simp only; omega))
    have HL := Lib.hid (show Ev.out { x with h := 0 } = [] by unfold Ev.out; rw [HM.out]; rfl)
    rw [HM.out] at CPX CMX
    rw [HL.out] at CPX
    clear CP CM HM HL
    generalize hE : ({ x with h := 0 } : Ev) = E at *
    obtain ⟨k0, k1, k2, k3, k4, k5, k6, k7, k8, k9, k10, k11⟩ := Blk.all W KW.out
    go_wp2_with fail
    clear k0 k1 k2 k3 k4 k5 k6 k7 k8 k9 k10 k11
    refine (CPX.out _).mono ?_
    rintro e w4 ⟨v, rfl, hown, hb4⟩
    have UV := Lib.hid (UW.out.trans (hb4.mono UW.out.size))
    obtain ⟨A, cap, rfl⟩ := own_form hown
    obtain ⟨k0, k1, k2, k3, k4, k5, k6, k7, k8, k9, k10, k11⟩ := Blk.all w4 (KW.out.up hb4)
    clear hown hb4 CPX UW
    go_wp2_with fail
    clear k0 k1 k2 k3 k4 k5 k6 k7 k8 k9 k10 k11
    refine (CMX.out _).mono ?_
    rintro e w5 ⟨rfl, hb5⟩
    have UU := Lib.hid (UV.out.trans (hb5.mono UV.out.size))
    clear hb5 UV CMX
    go_wp2
    go_ret
    exact ⟨rfl, UU.out⟩
  · go_upto_region 23 with (fail)
    refine wp_named (fun W hW => ?_)
    have KW := Lib.hid (show Blk W w2.heap.size (Ev.cells { x with h := 16777217 }) 25 by rw [hW]; first | exact Blk.new w2 (Ev.cells { x with h := 16777217 }) _ | exact KX.out)
    have UW := Lib.hid (show Below w.heap.size w W by
      rw [hW]
      first | exact U2.out.alloc U2.out.size _ | exact UX.out.setCell (by have := U2.out.size; simp; omega) _)
    clear hW UX KX
    have HM := Lib.hid (show Ev.may { x with h := 16777217 } = 1 from Ev.odd_h (.inr (by decide)))
    have CPX := Lib.hid (fun w => CP.out { x with h := 16777217 } w (by simp only; omega) (by simp only; omega))
    have CMX := Lib.hid (fun w => CM.out { x with h := 16777217 } w (by simp only; omega) (by simp only; omega))
    have HL := Lib.hid (show Ev.out { x with h := 16777217 } = [] by unfold Ev.out; rw [HM.out]; rfl)
    rw [HM.out] at CPX CMX
    rw [HL.out] at CPX
    clear CP CM HM HL
    generalize hE : ({ x with h := 16777217 } : Ev) = E at *
    obtain ⟨k0, k1, k2, k3, k4, k5, k6, k7, k8, k9, k10, k11⟩ := Blk.all W KW.out
    go_wp2_with fail
    clear k0 k1 k2 k3 k4 k5 k6 k7 k8 k9 k10 k11
    refine (CPX.out _).mono ?_
    rintro e w4 ⟨v, rfl, hown, hb4⟩
    have UV := Lib.hid (UW.out.trans (hb4.mono UW.out.size))
    obtain ⟨A, cap, rfl⟩ := own_form hown
    obtain ⟨k0, k1, k2, k3, k4, k5, k6, k7, k8, k9, k10, k11⟩ := Blk.all w4 (KW.out.up hb4)
    clear hown hb4 CPX UW
    go_wp2_with fail
    clear k0 k1 k2 k3 k4 k5 k6 k7 k8 k9 k10 k11
    refine (CMX.out _).mono ?_
    rintro e w5 ⟨rfl, hb5⟩
    have UU := Lib.hid (UV.out.trans (hb5.mono UV.out.size))
    clear hb5 UV CMX
    go_wp2
    go_ret
    exact ⟨rfl, UU.out⟩
  · have hadd : ∀ w : World, (Op.stringOp .add x.key ⟨#[33]⟩).run Try.prog w = .ok (.string (x.key ++ ⟨#[33]⟩)) w := fun w => run_string_add_sum w _ _ (by
      have := Ev.key_size (Ev.edit_zero HX.out.ed).2.2.1
      simp only [Ev.ed] at this
      show x.key.size + 1 ≤ _
      omega)
    go_upto_region 23 with (fail)
    refine wp_named (fun W hW => ?_)
    have KW := Lib.hid (show Blk W w2.heap.size (Ev.cells { x with key := x.key ++ ⟨#[33]⟩ }) 25 by rw [hW]; first | exact Blk.new w2 (Ev.cells { x with key := x.key ++ ⟨#[33]⟩ }) _ | exact KX.out)
    have UW := Lib.hid (show Below w.heap.size w W by
      rw [hW]
      first | exact U2.out.alloc U2.out.size _ | exact UX.out.setCell (by have := U2.out.size; simp; omega) _)
    clear hW UX KX
    have HM := Lib.hid (show Ev.may { x with key := x.key ++ ⟨#[33]⟩ } = 10 from Ev.odd_key HX.out)
    have CPX := Lib.hid (fun w => CP.out { x with key := x.key ++ ⟨#[33]⟩ } w (by simp only; omega) (by simp only; omega))
    have CMX := Lib.hid (fun w => CM.out { x with key := x.key ++ ⟨#[33]⟩ } w (by simp only; omega) (by simp only; omega))
    have HL := Lib.hid (show Ev.out { x with key := x.key ++ ⟨#[33]⟩ } = [] by unfold Ev.out; rw [HM.out]; rfl)
    rw [HM.out] at CPX CMX
    rw [HL.out] at CPX
    clear CP CM HM HL
    generalize hE : ({ x with key := x.key ++ ⟨#[33]⟩ } : Ev) = E at *
    obtain ⟨k0, k1, k2, k3, k4, k5, k6, k7, k8, k9, k10, k11⟩ := Blk.all W KW.out
    go_wp2_with fail
    clear k0 k1 k2 k3 k4 k5 k6 k7 k8 k9 k10 k11
    refine (CPX.out _).mono ?_
    rintro e w4 ⟨v, rfl, hown, hb4⟩
    have UV := Lib.hid (UW.out.trans (hb4.mono UW.out.size))
    obtain ⟨A, cap, rfl⟩ := own_form hown
    obtain ⟨k0, k1, k2, k3, k4, k5, k6, k7, k8, k9, k10, k11⟩ := Blk.all w4 (KW.out.up hb4)
    clear hown hb4 CPX UW
    go_wp2_with fail
    clear k0 k1 k2 k3 k4 k5 k6 k7 k8 k9 k10 k11
    refine (CMX.out _).mono ?_
    rintro e w5 ⟨rfl, hb5⟩
    have UU := Lib.hid (UV.out.trans (hb5.mono UV.out.size))
    clear hb5 UV CMX
    go_wp2
    go_ret
    exact ⟨rfl, UU.out⟩
  · go_upto_region 23 with (fail)
    refine wp_named (fun W hW => ?_)
    have KW := Lib.hid (show Blk W w2.heap.size (Ev.cells { x with l := 2 }) 25 by rw [hW]; first | exact Blk.new w2 (Ev.cells { x with l := 2 }) _ | exact KX.out)
    have UW := Lib.hid (show Below w.heap.size w W by
      rw [hW]
      first | exact U2.out.alloc U2.out.size _ | exact UX.out.setCell (by have := U2.out.size; simp; omega) _)
    clear hW UX KX
    have HM := Lib.hid (show Ev.may { x with l := 2 } = 11 from Ev.odd_label HX.out)
    have CPX := Lib.hid (fun w => CP.out { x with l := 2 } w (by simp only; omega) (by simp only; omega))
    have CMX := Lib.hid (fun w => CM.out { x with l := 2 } w (by simp only; omega) (by simp only; omega))
    have HL := Lib.hid (show Ev.out { x with l := 2 } = [] by unfold Ev.out; rw [HM.out]; rfl)
    rw [HM.out] at CPX CMX
    rw [HL.out] at CPX
    clear CP CM HM HL
    generalize hE : ({ x with l := 2 } : Ev) = E at *
    obtain ⟨k0, k1, k2, k3, k4, k5, k6, k7, k8, k9, k10, k11⟩ := Blk.all W KW.out
    go_wp2_with fail
    clear k0 k1 k2 k3 k4 k5 k6 k7 k8 k9 k10 k11
    refine (CPX.out _).mono ?_
    rintro e w4 ⟨v, rfl, hown, hb4⟩
    have UV := Lib.hid (UW.out.trans (hb4.mono UW.out.size))
    obtain ⟨A, cap, rfl⟩ := own_form hown
    obtain ⟨k0, k1, k2, k3, k4, k5, k6, k7, k8, k9, k10, k11⟩ := Blk.all w4 (KW.out.up hb4)
    clear hown hb4 CPX UW
    go_wp2_with fail
    clear k0 k1 k2 k3 k4 k5 k6 k7 k8 k9 k10 k11
    refine (CMX.out _).mono ?_
    rintro e w5 ⟨rfl, hb5⟩
    have UU := Lib.hid (UV.out.trans (hb5.mono UV.out.size))
    clear hb5 UV CMX
    go_wp2
    go_ret
    exact ⟨rfl, UU.out⟩
  · go_upto_region 23 with (fail)
    refine wp_named (fun W hW => ?_)
    have KW := Lib.hid (show Blk W w2.heap.size (Ev.cells { x with v := ⟨#[116, 104, 105, 114, 116, 101, 101, 110, 32, 98, 121, 116, 101]⟩ }) 25 by rw [hW]; first | exact Blk.new w2 (Ev.cells { x with v := ⟨#[116, 104, 105, 114, 116, 101, 101, 110, 32, 98, 121, 116, 101]⟩ }) _ | exact KX.out)
    have UW := Lib.hid (show Below w.heap.size w W by
      rw [hW]
      first | exact U2.out.alloc U2.out.size _ | exact UX.out.setCell (by have := U2.out.size; simp; omega) _)
    clear hW UX KX
    have HM := Lib.hid (show Ev.may { x with v := ⟨#[116, 104, 105, 114, 116, 101, 101, 110, 32, 98, 121, 116, 101]⟩ } = 12 from Ev.odd_value HX.out _ rfl)
    have CPX := Lib.hid (fun w => CP.out { x with v := ⟨#[116, 104, 105, 114, 116, 101, 101, 110, 32, 98, 121, 116, 101]⟩ } w (by simp only; omega) (by simp only; omega))
    have CMX := Lib.hid (fun w => CM.out { x with v := ⟨#[116, 104, 105, 114, 116, 101, 101, 110, 32, 98, 121, 116, 101]⟩ } w (by simp only; omega) (by simp only; omega))
    have HL := Lib.hid (show Ev.out { x with v := ⟨#[116, 104, 105, 114, 116, 101, 101, 110, 32, 98, 121, 116, 101]⟩ } = [] by unfold Ev.out; rw [HM.out]; rfl)
    rw [HM.out] at CPX CMX
    rw [HL.out] at CPX
    clear CP CM HM HL
    generalize hE : ({ x with v := ⟨#[116, 104, 105, 114, 116, 101, 101, 110, 32, 98, 121, 116, 101]⟩ } : Ev) = E at *
    obtain ⟨k0, k1, k2, k3, k4, k5, k6, k7, k8, k9, k10, k11⟩ := Blk.all W KW.out
    go_wp2_with fail
    clear k0 k1 k2 k3 k4 k5 k6 k7 k8 k9 k10 k11
    refine (CPX.out _).mono ?_
    rintro e w4 ⟨v, rfl, hown, hb4⟩
    have UV := Lib.hid (UW.out.trans (hb4.mono UW.out.size))
    obtain ⟨A, cap, rfl⟩ := own_form hown
    obtain ⟨k0, k1, k2, k3, k4, k5, k6, k7, k8, k9, k10, k11⟩ := Blk.all w4 (KW.out.up hb4)
    clear hown hb4 CPX UW
    go_wp2_with fail
    clear k0 k1 k2 k3 k4 k5 k6 k7 k8 k9 k10 k11
    refine (CMX.out _).mono ?_
    rintro e w5 ⟨rfl, hb5⟩
    have UU := Lib.hid (UV.out.trans (hb5.mono UV.out.size))
    clear hb5 UV CMX
    go_wp2
    go_ret
    exact ⟨rfl, UU.out⟩
end Go.Proofs.Ytilfpcchjkfkhaa
