/-
  The walk of BookLists.
-/
import Derived.Test.YtolpfchnfhdhkaaBkl
namespace Go.Proofs.Ytolpfchnfhdhkaa
open Go.RowKit
set_option maxRecDepth 100000
set_option maxRecDepth 100000

/-- A contact's cells in a block. -/
def CtBl (w : World) (s : Nat) (c : Ct) : Prop :=
  ∃ A0 c0 A1 c1, Blk w s #[.string c.k, .bool c.h0, .bool c.h1, .string c.f0, .string c.f1, .slice A0 c.s0.length c0, .slice A1 c.s1.length c1] 51 ∧ Sl w 1 A0 c.s0.length c0 (Bk.strV c.s0) ∧ Sl w 1 A1 c.s1.length c1 (Bk.strV c.s1)
theorem CtBl.up {w w' : World} {s : Nat} {c : Ct} (h : CtBl w s c) (hu : Lex.Up w w') : CtBl w' s c := by
  obtain ⟨A0, c0, A1, c1, hb, h0, h1⟩ := h
  exact ⟨A0, c0, A1, c1, hb.up hu, h0.up hu, h1.up hu⟩
theorem CtBl.key {w : World} {s : Nat} {c : Ct} (h : CtBl w s c) : w.cell? ⟨s, 0, none⟩ = some (.string c.k) := by
  obtain ⟨A0, c0, A1, c1, hb, h0, h1⟩ := h
  exact hb.cell rfl
/-- What a contact holds of a label. -/
theorem CtBl.at_ {w : World} {s : Nat} {c : Ct} (h : CtBl w s c) {n : Nat} (hn : n < 2) : w.cell? ⟨s, 1 + n, none⟩ = some (.bool (c.h n)) ∧ w.cell? ⟨s, 3 + n, none⟩ = some (.string (c.f n)) ∧
    ∃ A cap, w.cell? ⟨s, 5 + n, none⟩ = some (.slice A (c.s n).length cap) ∧ Sl w 1 A (c.s n).length cap (Bk.strV (c.s n)) := by
  obtain ⟨A0, c0, A1, c1, hb, h0, h1⟩ := h
  match n, hn with
  | 0, _ => exact ⟨hb.cell rfl, hb.cell rfl, A0, c0, hb.cell rfl, h0⟩
  | 1, _ => exact ⟨hb.cell rfl, hb.cell rfl, A1, c1, hb.cell rfl, h1⟩
theorem CtBl.sets {w : World} {s : Nat} {c : Ct} (h : CtBl w s c) {n : Nat} (hn : n < 2) : ∃ A cap, ∀ w', Lex.Up w w' → w'.cell? ⟨s, 5 + n, none⟩ = some (.slice A (c.s n).length cap) ∧ Sl w' 1 A (c.s n).length cap (Bk.strV (c.s n)) := by
  obtain ⟨A0, c0, A1, c1, hb, h0, h1⟩ := h
  match n, hn with
  | 0, _ => exact ⟨A0, c0, fun w' hu => ⟨(hb.up hu).cell rfl, h0.up hu⟩⟩
  | 1, _ => exact ⟨A1, c1, fun w' hu => ⟨(hb.up hu).cell rfl, h1.up hu⟩⟩
theorem str_at {w : World} {A : Option Addr} {n cap : Nat} {xs : List ByteArray} (h : Sl w 1 A n cap (Bk.strV xs)) {k : Nat} (hk : k < n) :
    ∃ b off, A = some ⟨b, off, none⟩ ∧ w.cell? ⟨b, off + k, none⟩ = some (.string (Bk.sAt xs k)) := by
  have hl : (Bk.strV xs).length = n * 1 := h.1
  rw [Bk.strV_len, Nat.mul_one] at hl
  obtain ⟨b, off, e, _, hc⟩ := h.2.2.2 (by omega)
  refine ⟨b, off, e, hc k _ ?_⟩
  unfold Bk.strV Bk.sAt
  rw [List.getElem?_map, List.getElem?_eq_getElem (by omega), List.getD, List.getElem?_eq_getElem (by omega)]; rfl
def LsRel (m : Nat) (W : World) (v : Value) (wr : World) : Prop := ∃ k : Nat, k ≤ m ∧ v = .int .i64 k ∧ Hid (Lex.Up W wr)

set_option maxHeartbeats 12800000 in
theorem law_lists (es0 : List Ev) (A : Option Addr) (n cap : Nat) (w : World) (h : EvSl w A n cap es0) (hks : ∀ e ∈ es0, e.key.size ≤ maxLen) :
    Calls Try.prog 9 #[.slice A n cap] w fun x w' => x = .returned (.bool true) ∧ Below w.heap.size w w' := by
  have SL0 := Lib.hid (fun w' (hu : Lex.Up w w') => EvSl.up h hu)
  have KS := Lib.hid hks
  have C1 := Lib.hid (fun w => shown_any w)
  clear h hks
  go_enter Try.func9, Try.ntmps9
  go_wp2_with fail
  refine (C1.out _).mono ?_
  rintro x w1 ⟨rfl, hu⟩
  have U1 := Lib.hid (show Lex.Up w w1 from hu)
  clear hu C1
  go_wp2_with fail
  refine (few_any A n cap w1 es0 (SL0.out w1 U1.out)).mono ?_
  rintro x w1 ⟨⟨m, hmn, hm30, rfl⟩, rfl⟩
  have SM := Lib.hid ((SL0.out _ U1.out).take hmn)
  have KM := Lib.hid (show ∀ e ∈ es0.take m, e.key.size ≤ maxLen from fun e he => KS.out e (List.mem_of_mem_take he))
  clear SL0 KS
  generalize es0.take m = es at SM KM
  have hlen := SM.out.len
  have CS := Lib.hid (fun w' (hu : Lex.Up w1 w') => size_any es A m cap w' (SM.out.up hu) (by omega))
  have WR := Lib.hid (fun e w' (hu : Lex.Up w1 w') => wrote_any es A m cap e w' (SM.out.up hu))
  have z1 := Bk.size_le es
  have z2 := Bk.keys_le es
  have Z3 := Lib.hid (fun h => Bk.size_zero (es := es) h)
  rw [hlen] at z1
  rw [← Bk.book_len] at z2
  have TT := Lib.hid (fun i hi => Bk.told (es := es) (i := i) hi)
  have CB := Lib.hid (book_any es A m cap w1 SM.out (by omega) KM.out)
  have BL := Bk.book_len es
  rw [← BL] at Z3
  clear SM KM BL
  generalize Bk.size es = sz at *
  generalize Bk.book es = B at *
  go_wp2_with fail
  refine CB.out.mono ?_
  rintro x w2 ⟨⟨A2, c2, rfl, h2⟩, u2⟩
  have H2 := Lib.hid (fun w' (hu : Lex.Up w2 w') => CtSl.up h2 hu)
  have U2 := Lib.hid (show Lex.Up w w2 from U1.out.trans u2)
  have CS2 := Lib.hid (fun w' (hu : Lex.Up w2 w') => CS.out w' (u2.trans hu))
  have WR2 := Lib.hid (fun e w' (hu : Lex.Up w2 w') => WR.out e w' (u2.trans hu))
  have AD2 := Lib.hid (show 0 < B.length → ∃ b off, A2 = some ⟨b, off, none⟩ from fun h0 => by
    obtain ⟨_, us, g, _⟩ := h2
    obtain ⟨b, off, e, _⟩ := g.2.2.2 h0
    exact ⟨b, off, e⟩)
  have bl : B.length < 9223372036854775807 := by omega
  clear CB h2 u2 CS WR U1
  go_upto_region 4 with (fail)
  go_cut [36] (fun v36 wx => v36 = .bool false ∧ Hid (Lex.Up w2 wx))
  case first =>
    by_cases hb0 : B.length = 0
    · have d0 : ((B.length : Int) == 0) = true := by rw [hb0]; rfl
      have hs0 := Z3.out hb0
      have d1 : ((sz : Int) != 0) = false := by rw [hs0]; rfl
      have d2 : decide ((m : Int) < (sz : Int)) = false := decide_eq_false (by omega)
      have d3 : decide ((sz : Int) < (B.length : Int)) = false := decide_eq_false (by omega)
      clear hb0 hs0
      go_wp2_with fail
      refine (CS2.out _ (Lex.Up.refl _)).mono ?_
      rintro x w3 ⟨rfl, hu3⟩
      go_wp2_with fail
      refine (CS2.out _ hu3).mono ?_
      rintro x w4 ⟨rfl, hu4⟩
      go_wp2_with fail
      refine (CS2.out _ (hu3.trans hu4)).mono ?_
      rintro x w5 ⟨rfl, hu5⟩
      go_wp2_with fail
      go_meet
      exact ⟨by simp; omega, Lib.hid ((hu3.trans hu4).trans hu5)⟩
    · have d0 : ((B.length : Int) == 0) = false := beq_eq_false_iff_ne.2 (by omega)
      have d2 : decide ((m : Int) < (sz : Int)) = false := decide_eq_false (by omega)
      have d3 : decide ((sz : Int) < (B.length : Int)) = false := decide_eq_false (by omega)
      go_wp2_with fail
      refine (CS2.out _ (Lex.Up.refl _)).mono ?_
      rintro x w4 ⟨rfl, hu4⟩
      go_wp2_with fail
      refine (CS2.out _ hu4).mono ?_
      rintro x w5 ⟨rfl, hu5⟩
      go_wp2_with fail
      go_meet
      exact ⟨by simp; omega, Lib.hid (hu4.trans hu5)⟩
  case rest =>
    obtain ⟨rfl, UC⟩ := hcut
    clear CS2 Z3
    go_wp2
    go_loopw [6] (fun v wr => LsRel B.length w2 v wr) (fun v _ => B.length - (intOf v).toNat)
    case atStart => exact ⟨0, by omega, rfl, UC⟩
    case round =>
      obtain ⟨i, hi, rfl, UI⟩ := hrel
      clear UC
      by_cases hi5 : i < B.length
      · have hi5' : (i : Int) < B.length := by omega
        obtain ⟨b, off, rfl⟩ := AD2.out (by omega)
        obtain ⟨t1, t2, t3⟩ := TT.out i hi5
        have T1 := Lib.hid t1; have T2 := Lib.hid t2; have T3 := Lib.hid t3
        have PR := Lib.hid (fun w' (hu : Lex.Up w2 w') j (hj : j < B.length) => ct_at (H2.out w' hu) hj)
        obtain ⟨b', off', A0, p0, A1, p1, e, k0, k1, k2, k3, k4, k5, k6, s0, s1⟩ := PR.out wr UI.out i hi5
        obtain ⟨rfl, rfl⟩ : b = b' ∧ off = off' := by simpa using e
        generalize hc : Ct.nth B i = c at *
        have S0 := Lib.hid s0; have S1 := Lib.hid s1
        have ui := UI.out
        have zz := UI.out.size
        clear t1 t2 t3 e s0 s1
        go_upto_region 10 with (fail)
        refine wp_named (fun W5 hW => ?_)
        have up5 : Lex.Up wr W5 := by rw [hW]; exact (Below.refl _ _).alloc (Nat.le_refl _) _
        have K5 := Lib.hid (show CtBl W5 wr.heap.size c from ⟨A0, p0, A1, p1, by rw [hW]; exact Blk.new wr _ _, S0.out.up up5, S1.out.up up5⟩)
        have U5 := Lib.hid (ui.trans up5)
        clear hW up5 S0 S1 k0 k1 k2 k3 k4 k5 k6 ui
        have W1 := WR2.out (Bk.mk 1 c.k 0 ⟨#[]⟩)
        rw [T2.out] at W1
        have WK := Lib.hid (fun w' (hu : Lex.Up W5 w') => W1 w' (U5.out.trans hu))
        unfold Ev.val Bk.mk Ck.zero at WK
        clear W1 T2
        go_cut [67] (fun v67 wx => v67 = .bool false ∧ Hid (Lex.Up W5 wx))
        case first =>
          by_cases i0 : i = 0
          · have d : decide (0 < i) = false := decide_eq_false (by omega)
            clear i0
            refine Lex.wp_region_lex (by kernel_rfl) (by kernel_rfl) (by rfl) ?_
            repeat (first | (refine Lex.lex_skip (by rfl) (by rfl) (by rfl) ?_; simp only [Act.put, List.setIfInBounds_toArray, List.set_cons_zero, List.set_cons_succ]) | (refine Lex.lex_pure (c := ?_) (by rfl) (by rfl) (fun w' hC => ?_) (by rfl) ?_; rotate_left 1; (have kk := (K5.out.up hC).key; go_simp; rfl); simp only [Act.put, List.setIfInBounds_toArray, List.set_cons_zero, List.set_cons_succ]))
            refine Lex.lex_callv (.bool true) (by rfl) (by rfl) (fun w' => by go_simp) (fun w' hC => WK.out w' hC) (by rfl) ?_
            simp only [Act.put, List.setIfInBounds_toArray, List.set_cons_zero, List.set_cons_succ]
            repeat (first | (refine Lex.lex_skip (by rfl) (by rfl) (by rfl) ?_; simp only [Act.put, List.setIfInBounds_toArray, List.set_cons_zero, List.set_cons_succ]) | (refine Lex.lex_pure (c := ?_) (by rfl) (by rfl) (fun w' hC => ?_) (by rfl) ?_; rotate_left 1; (have kk := (K5.out.up hC).key; go_simp; rfl); simp only [Act.put, List.setIfInBounds_toArray, List.set_cons_zero, List.set_cons_succ]))
            refine Lex.lex_nil (fun w7 hC => ?_)
            simp only [Lex.fill]
            go_wp2_with fail
            go_meet
            exact ⟨rfl, Lib.hid hC⟩
          · obtain ⟨j, hj⟩ : ∃ j, i = j + 1 := ⟨i - 1, by omega⟩
            have d : decide (0 < i) = true := decide_eq_true (by omega)
            have hw1 : IntKind.i64.wrap ((i : Int) - 1) = (j : Int) := by rw [IntWalk.i64_in _ ⟨by omega, by omega⟩]; omega
            have hj5 : j < B.length := by omega
            have hj5' : (j : Int) < B.length := by omega
            have TB := T1.out j hj
            have PJ := Lib.hid (fun w' (hu : Lex.Up W5 w') => (show w'.cell? ⟨b, off + j * 7, none⟩ = some (.string (Ct.nth B j).k) from by
              obtain ⟨b', off', A0, p0, A1, p1, e, k0, _⟩ := PR.out w' (U5.out.trans hu) j hj5
              obtain ⟨rfl, rfl⟩ : b = b' ∧ off = off' := by simpa using e
              exact k0))
            clear i0 hj
            refine Lex.wp_region_lex (by kernel_rfl) (by kernel_rfl) (by rfl) ?_
            repeat (first | (refine Lex.lex_skip (by rfl) (by rfl) (by rfl) ?_; simp only [Act.put, List.setIfInBounds_toArray, List.set_cons_zero, List.set_cons_succ]) | (refine Lex.lex_pure (c := ?_) (by rfl) (by rfl) (fun w' hC => ?_) (by rfl) ?_; rotate_left 1; (have kk := (K5.out.up hC).key; have kj := PJ.out w' hC; go_simp; rfl); simp only [Act.put, List.setIfInBounds_toArray, List.set_cons_zero, List.set_cons_succ]))
            refine Lex.lex_callv (.bool true) (by rfl) (by rfl) (fun w' => by go_simp) (fun w' hC => WK.out w' hC) (by rfl) ?_
            simp only [Act.put, List.setIfInBounds_toArray, List.set_cons_zero, List.set_cons_succ]
            repeat (first | (refine Lex.lex_skip (by rfl) (by rfl) (by rfl) ?_; simp only [Act.put, List.setIfInBounds_toArray, List.set_cons_zero, List.set_cons_succ]) | (refine Lex.lex_pure (c := ?_) (by rfl) (by rfl) (fun w' hC => ?_) (by rfl) ?_; rotate_left 1; (have kk := (K5.out.up hC).key; have kj := PJ.out w' hC; go_simp; rfl); simp only [Act.put, List.setIfInBounds_toArray, List.set_cons_zero, List.set_cons_succ]))
            refine Lex.lex_nil (fun w7 hC => ?_)
            simp only [Lex.fill]
            go_wp2_with fail
            go_meet
            exact ⟨rfl, Lib.hid hC⟩
        case rest =>
          obtain ⟨rfl, UC⟩ := hcut
          clear T1 WK PR
          go_wp2
          go_loopw [8] (fun v wr => LsRel 2 W5 v wr) (fun v _ => 2 - (intOf v).toNat)
          case atStart => exact ⟨0, by omega, rfl, UC⟩
          case round =>
            obtain ⟨l, hl, rfl, UL⟩ := hrel
            clear UC
            by_cases hl2 : l < 2
            · have hl2' : (l : Int) < 2 := by omega
              obtain ⟨⟨q1, q2⟩, q3⟩ := T3.out l hl2
              have Q1 := Lib.hid q1; have Q3 := Lib.hid q3
              have KL := Lib.hid (fun w' (hu : Lex.Up W5 w') => (K5.out.up hu).at_ hl2)
              have KK := Lib.hid (fun w' (hu : Lex.Up W5 w') => (K5.out.up hu).key)
              have W3 := WR2.out (Bk.mk 3 c.k l (c.f l))
              have hw := hl2'
              go_upto_region 15 with (fail)
              go_cut [102] (fun v102 wx => v102 = .bool false ∧ Hid (Lex.Up W5 wx))
              case first =>
                cases hh : c.h l
                · have hf := Q1.out hh
                  rw [hh] at KL
                  rw [hf] at KL
                  clear W3 q1 q2 q3 hh hf
                  refine Lex.wp_region_lex (by kernel_rfl) (by kernel_rfl) (by rfl) ?_
                  repeat (first | (refine Lex.lex_skip (by rfl) (by rfl) (by rfl) ?_; simp only [Act.put, List.setIfInBounds_toArray, List.set_cons_zero, List.set_cons_succ]) | (refine Lex.lex_pure (c := ?_) (by rfl) (by rfl) (fun w' hC => ?_) (by rfl) ?_; rotate_left 1; (obtain ⟨x1, x2, -⟩ := KL.out w' (UL.out.trans hC); go_simp; rfl); simp only [Act.put, List.setIfInBounds_toArray, List.set_cons_zero, List.set_cons_succ]))
                  refine Lex.lex_nil (fun w7 hC => ?_)
                  simp only [Lex.fill]
                  go_wp2_with fail
                  go_meet
                  exact ⟨rfl, Lib.hid (UL.out.trans hC)⟩
                · rw [q2 hh] at W3
                  rw [hh] at KL
                  have WK := Lib.hid (fun w' (hu : Lex.Up wr w') => W3 w' (U5.out.trans (UL.out.trans hu)))
                  unfold Ev.val Bk.mk Ck.zero at WK
                  clear W3 q1 q2 q3 hh
                  refine Lex.wp_region_lex (by kernel_rfl) (by kernel_rfl) (by rfl) ?_
                  repeat (first | (refine Lex.lex_skip (by rfl) (by rfl) (by rfl) ?_; simp only [Act.put, List.setIfInBounds_toArray, List.set_cons_zero, List.set_cons_succ]) | (refine Lex.lex_pure (c := ?_) (by rfl) (by rfl) (fun w' hC => ?_) (by rfl) ?_; rotate_left 1; (obtain ⟨x1, x2, -⟩ := KL.out w' (UL.out.trans hC); have kk := KK.out w' (UL.out.trans hC); go_simp; rfl); simp only [Act.put, List.setIfInBounds_toArray, List.set_cons_zero, List.set_cons_succ]))
                  refine Lex.lex_callv (.bool true) (by rfl) (by rfl) (fun w' => by go_simp) (fun w' hC => WK.out w' hC) (by rfl) ?_
                  simp only [Act.put, List.setIfInBounds_toArray, List.set_cons_zero, List.set_cons_succ]
                  repeat (first | (refine Lex.lex_skip (by rfl) (by rfl) (by rfl) ?_; simp only [Act.put, List.setIfInBounds_toArray, List.set_cons_zero, List.set_cons_succ]) | (refine Lex.lex_pure (c := ?_) (by rfl) (by rfl) (fun w' hC => ?_) (by rfl) ?_; rotate_left 1; (obtain ⟨x1, x2, -⟩ := KL.out w' (UL.out.trans hC); have kk := KK.out w' (UL.out.trans hC); go_simp; rfl); simp only [Act.put, List.setIfInBounds_toArray, List.set_cons_zero, List.set_cons_succ]))
                  refine Lex.lex_nil (fun w7 hC => ?_)
                  simp only [Lex.fill]
                  go_wp2_with fail
                  go_meet
                  exact ⟨rfl, Lib.hid (UL.out.trans hC)⟩
              case rest =>
                obtain ⟨rfl, UM⟩ := hcut
                clear UL Q1 q1 q2 q3 W3
                obtain ⟨A9, p9, hks⟩ := K5.out.sets hl2
                have hs64 : (c.s l).length ≤ 9223372036854775807 := Nat.le_trans (hks wc UM.out).2.2.1 (hks wc UM.out).2.2.2.1
                have HS := Lib.hid hks
                clear hks
                go_wp2
                go_loopw [9] (fun v wr => LsRel (c.s l).length W5 v wr) (fun v _ => (c.s l).length - (intOf v).toNat)
                case atStart => exact ⟨0, by omega, rfl, UM⟩
                case round =>
                  obtain ⟨k, hk, rfl, UK⟩ := hrel
                  clear UM
                  have KS := Lib.hid (fun w' (hu : Lex.Up wr w') => (HS.out w' (UK.out.trans hu)).1)
                  have SS := Lib.hid (fun w' (hu : Lex.Up wr w') => (HS.out w' (UK.out.trans hu)).2)
                  have g1 := KS.out wr (Lex.Up.refl _)
                  by_cases hk5 : k < (c.s l).length
                  · have hk5' : (k : Int) < (c.s l).length := by omega
                    obtain ⟨sb, so, e, -⟩ := str_at (SS.out wr (Lex.Up.refl _)) hk5
                    subst e
                    obtain ⟨r1, r2⟩ := Q3.out k hk5
                    have W4 := WR2.out (Bk.mk 4 c.k l (Bk.sAt (c.s l) k))
                    rw [r2] at W4
                    have WK := Lib.hid (fun w' (hu : Lex.Up wr w') => W4 w' (U5.out.trans (UK.out.trans hu)))
                    unfold Ev.val Bk.mk Ck.zero at WK
                    have SK := Lib.hid (fun w' (hu : Lex.Up wr w') => (show w'.cell? ⟨sb, so + k, none⟩ = some (.string (Bk.sAt (c.s l) k)) from by
                      obtain ⟨b', o', e, g⟩ := str_at (SS.out w' hu) hk5
                      obtain ⟨rfl, rfl⟩ : sb = b' ∧ so = o' := by simpa using e
                      exact g))
                    clear W4 r2
                    go_upto_region 20 with (fail)
                    go_cut [147] (fun v147 wx => v147 = .bool false ∧ Hid (Lex.Up wr wx))
                    case first =>
                      by_cases k0 : k = 0
                      · have d : decide (0 < k) = false := decide_eq_false (by omega)
                        clear k0 r1 g1
                        refine Lex.wp_region_lex (by kernel_rfl) (by kernel_rfl) (by rfl) ?_
                        repeat (first | (refine Lex.lex_skip (by rfl) (by rfl) (by rfl) ?_; simp only [Act.put, List.setIfInBounds_toArray, List.set_cons_zero, List.set_cons_succ]) | (refine Lex.lex_pure (c := ?_) (by rfl) (by rfl) (fun w' hC => ?_) (by rfl) ?_; rotate_left 1; (have kk := KK.out w' (UK.out.trans hC); have ks := KS.out w' hC; have sk := SK.out w' hC; go_simp; rfl); simp only [Act.put, List.setIfInBounds_toArray, List.set_cons_zero, List.set_cons_succ]))
                        refine Lex.lex_callv (.bool true) (by rfl) (by rfl) (fun w' => by go_simp) (fun w' hC => WK.out w' hC) (by rfl) ?_
                        simp only [Act.put, List.setIfInBounds_toArray, List.set_cons_zero, List.set_cons_succ]
                        repeat (first | (refine Lex.lex_skip (by rfl) (by rfl) (by rfl) ?_; simp only [Act.put, List.setIfInBounds_toArray, List.set_cons_zero, List.set_cons_succ]) | (refine Lex.lex_pure (c := ?_) (by rfl) (by rfl) (fun w' hC => ?_) (by rfl) ?_; rotate_left 1; (have kk := KK.out w' (UK.out.trans hC); have ks := KS.out w' hC; have sk := SK.out w' hC; go_simp; rfl); simp only [Act.put, List.setIfInBounds_toArray, List.set_cons_zero, List.set_cons_succ]))
                        refine Lex.lex_nil (fun w7 hC => ?_)
                        simp only [Lex.fill]
                        go_wp2_with fail
                        go_meet
                        exact ⟨rfl, Lib.hid hC⟩
                      · obtain ⟨j, hj⟩ : ∃ j, k = j + 1 := ⟨k - 1, by omega⟩
                        have d : decide (0 < k) = true := decide_eq_true (by omega)
                        have hw1 : IntKind.i64.wrap ((k : Int) - 1) = (j : Int) := by rw [IntWalk.i64_in _ ⟨by omega, by omega⟩]; omega
                        have hj5 : j < (c.s l).length := by omega
                        have hj5' : (j : Int) < (c.s l).length := by omega
                        have TB := r1 j hj
                        have SJ := Lib.hid (fun w' (hu : Lex.Up wr w') => (show w'.cell? ⟨sb, so + j, none⟩ = some (.string (Bk.sAt (c.s l) j)) from by
                          obtain ⟨b', o', e, g⟩ := str_at (SS.out w' hu) hj5
                          obtain ⟨rfl, rfl⟩ : sb = b' ∧ so = o' := by simpa using e
                          exact g))
                        clear k0 r1 g1 hj
                        refine Lex.wp_region_lex (by kernel_rfl) (by kernel_rfl) (by rfl) ?_
                        repeat (first | (refine Lex.lex_skip (by rfl) (by rfl) (by rfl) ?_; simp only [Act.put, List.setIfInBounds_toArray, List.set_cons_zero, List.set_cons_succ]) | (refine Lex.lex_pure (c := ?_) (by rfl) (by rfl) (fun w' hC => ?_) (by rfl) ?_; rotate_left 1; (have kk := KK.out w' (UK.out.trans hC); have ks := KS.out w' hC; have sk := SK.out w' hC; have sj := SJ.out w' hC; go_simp; rfl); simp only [Act.put, List.setIfInBounds_toArray, List.set_cons_zero, List.set_cons_succ]))
                        refine Lex.lex_callv (.bool true) (by rfl) (by rfl) (fun w' => by go_simp) (fun w' hC => WK.out w' hC) (by rfl) ?_
                        simp only [Act.put, List.setIfInBounds_toArray, List.set_cons_zero, List.set_cons_succ]
                        repeat (first | (refine Lex.lex_skip (by rfl) (by rfl) (by rfl) ?_; simp only [Act.put, List.setIfInBounds_toArray, List.set_cons_zero, List.set_cons_succ]) | (refine Lex.lex_pure (c := ?_) (by rfl) (by rfl) (fun w' hC => ?_) (by rfl) ?_; rotate_left 1; (have kk := KK.out w' (UK.out.trans hC); have ks := KS.out w' hC; have sk := SK.out w' hC; have sj := SJ.out w' hC; go_simp; rfl); simp only [Act.put, List.setIfInBounds_toArray, List.set_cons_zero, List.set_cons_succ]))
                        refine Lex.lex_nil (fun w7 hC => ?_)
                        simp only [Lex.fill]
                        go_wp2_with fail
                        go_meet
                        exact ⟨rfl, Lib.hid hC⟩
                    case rest =>
                      obtain ⟨rfl, UX⟩ := hcut
                      have UE := Lib.hid (UK.out.trans UX.out)
                      clear WK SK SS KS
                      clear g1 r1
                      go_wp2
                      go_roundw
                      case rel => exact ⟨k + 1, by omega, by go_num, UE⟩
                      case measure => simp [intOf]; omega
                  · obtain rfl : k = (c.s l).length := by omega
                    go_wp2
                    go_roundw
                    case rel => exact ⟨l + 1, by omega, by go_num, UK⟩
                    case measure => simp [intOf]; omega
            · obtain rfl : l = 2 := by omega
              have UE := U5.out.trans UL.out
              go_wp2
              go_roundw
              case rel => exact ⟨i + 1, by omega, by go_num, Lib.hid UE⟩
              case measure => simp [intOf]; omega
      · obtain rfl : i = B.length := by omega
        go_wp2
        go_ret
        exact ⟨rfl, U2.out.trans UI.out⟩
end Go.Proofs.Ytolpfchnfhdhkaa
