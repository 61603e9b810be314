/-
  The walk of PastOrder.
-/
import Derived.Test.YthgfbnkggdlokaaLaws8A
import Derived.Test.YthgfbnkggdlokaaPstV
import Derived.Test.YthgfbnkggdlokaaEvBl
namespace Go.Proofs.Ythgfbnkggdlokaa
open Go.RowKit
set_option maxRecDepth 100000
set_option maxRecDepth 100000

theorem EvSl.blk {w : World} {b off n cap : Nat} {es : List Ev} (h : EvSl w (some ⟨b, off, Option.none⟩) n cap es) (h0 : 0 < n) : b < w.heap.size := by
  obtain ⟨b', off', e, hb, _⟩ := h.2.2.2 h0
  obtain ⟨rfl, rfl⟩ : b = b' ∧ off = off' := by simpa using e
  exact hb
/-- What is asked of any three events of a past. -/
structure OrdOk (es : List Ev) : Prop where
  one : ∀ i k, i < es.length → k < es.length → Ck.has (Ev.nth es k).c (Ev.nth es i).r (Ev.nth es i).n = true → Ck.has (Ev.nth es i).c (Ev.nth es k).r (Ev.nth es k).n = false ∧ (Ev.nth es i).h < (Ev.nth es k).h
  two : ∀ i k, i < es.length → k < es.length → i ≠ k → (Stp.less ⟨(Ev.nth es i).h, (Ev.nth es i).r⟩ ⟨(Ev.nth es k).h, (Ev.nth es k).r⟩ == Stp.less ⟨(Ev.nth es k).h, (Ev.nth es k).r⟩ ⟨(Ev.nth es i).h, (Ev.nth es i).r⟩) = false
  tri : ∀ i k j, i < es.length → k < es.length → j < es.length → Ck.has (Ev.nth es k).c (Ev.nth es i).r (Ev.nth es i).n = true → Ck.has (Ev.nth es j).c (Ev.nth es k).r (Ev.nth es k).n = true → Ck.has (Ev.nth es j).c (Ev.nth es i).r (Ev.nth es i).n = true
theorem ordOk {es : List Ev} (R : Pst.RightP es) : OrdOk es := by
  refine ⟨fun i k hi hk h => ⟨?_, Pst.up_high R (Pst.nth_mem hi) (Pst.nth_mem hk) h⟩, fun i k hi hk hne => Pst.less_one R (Pst.nth_mem hi) (Pst.nth_mem hk) (Pst.one_nth R.one hi hk hne), fun i k j hi hk hj h1 h2 => Pst.up_trans R (Pst.nth_mem hk) (Pst.nth_mem hj) h1 h2⟩
  have := Pst.up_down R (Pst.nth_mem hi) (Pst.nth_mem hk) h
  unfold Pst.hs at this
  simpa using this
def L1Rel (n : Nat) (W : World) (v : Value) (wr : World) : Prop := ∃ k : Nat, k ≤ n ∧ v = .int .i64 k ∧ Hid (Lex.Up W wr)

def StFact (b : Nat) (x y : Int) (W wr : World) : Prop := ∃ B, b = B ∧ Blk wr B #[.int .i64 x, .int .i64 y] 53 ∧ Lex.Up W wr

set_option maxHeartbeats 8000000 in
theorem law_order (A : Option Addr) (n cap : Nat) (cs : List Ch) (w : World) (hs : ChSl w A n cap cs) (hok : ∀ c ∈ cs, Ch.Ok c) :
    Calls Try.prog 6 #[.slice A n cap] w fun e w' => e = .returned (.bool true) ∧ Below w.heap.size w w' := by
  go_enter Try.func6, Try.ntmps6
  go_wp2_with fail
  refine (shown_any _).mono ?_
  rintro x w1 ⟨rfl, h1⟩
  have SC := Lib.hid (hs.up h1)
  have U1 := Lib.hid h1
  clear h1
  go_wp2_with fail
  refine (short_any A n cap _ cs SC.out).mono ?_
  rintro x w2 ⟨⟨m, hm, hmn, rfl⟩, rfl⟩
  go_wp2_with fail
  refine (make_any (cs.take m) A m cap _ (SC.out.take hmn) (fun c hc => hok c (List.mem_of_mem_take hc)) (by omega)).mono ?_
  rintro x w3 ⟨⟨es, H, v3, rfl, hmd, hlen, hown⟩, h3⟩
  obtain ⟨A3, cap3, rfl, hS⟩ := Sl.of_own hown
  have U3 := Lib.hid (show Lex.Up w w3 from U1.out.trans h3)
  have SE := Lib.hid (show EvSl w3 A3 es.length cap3 es from hS)
  have MD := Lib.hid hmd
  have R := Lib.hid (Pst.made_right hmd (by omega))
  have hN : es.length ≤ 40 := by omega
  clear hmd hown hS h3 SC U1
  have OO := Lib.hid (ordOk R.out)
  have CB := Lib.hid (fun a b w => below_any a b w)
  have CL := Lib.hid (fun a b w => less_any a b w)
  clear R MD hs hok
  go_wp2
  go_loopw [5] (fun v wr => L1Rel es.length w3 v wr) (fun v _ => es.length - (intOf v).toNat)
  case atStart => exact ⟨0, by omega, rfl, Lib.hid (Lex.Up.refl _)⟩
  case round =>
    obtain ⟨i, hi, rfl, UI⟩ := hrel
    by_cases hi5 : i < es.length
    · have hi5' : (i : Int) < es.length := by omega
      obtain ⟨b, off, rfl⟩ := SE.out.addr (by omega)
      go_wp2
      go_loopw [6] (fun v wr => L1Rel es.length w3 v wr) (fun v _ => es.length - (intOf v).toNat)
      case atStart => exact ⟨0, by omega, rfl, UI⟩
      case round =>
        rename_i wi _
        obtain ⟨k, hk, rfl, UK⟩ := hrel
        by_cases hk5 : k < es.length
        · have hk5' : (k : Int) < es.length := by omega
          have EI := Lib.hid (fun w' (hu : Lex.Up w3 w') => ev_at (SE.out.up hu) hi5)
          have EK := Lib.hid (fun w' (hu : Lex.Up w3 w') => ev_at (SE.out.up hu) hk5)
          have O1 := Lib.hid (OO.out.one i k hi5 hk5)
          have O2 := Lib.hid (OO.out.two i k hi5 hk5)
          have O3 := Lib.hid (fun j hj => OO.out.tri i k j hi5 hk5 hj)
          generalize hga : Ev.nth es i = a at *
          generalize hgb : Ev.nth es k = c at *
          have B1 := Lib.hid (fun w' => CB.out a c w')
          have B2 := Lib.hid (fun w' => CB.out c a w')
          have B3 := Lib.hid (fun d w' => CB.out c d w')
          have B4 := Lib.hid (fun d w' => CB.out a d w')
          have L1 := Lib.hid (fun w' => CL.out ⟨a.h, a.r⟩ ⟨c.h, c.r⟩ w')
          have L2 := Lib.hid (fun w' => CL.out ⟨c.h, c.r⟩ ⟨a.h, a.r⟩ w')
          unfold Ev.val at B1 B2 B3 B4
          unfold Stp.val at L1 L2
          simp only at L1 L2
          generalize Stp.less ⟨a.h, a.r⟩ ⟨c.h, c.r⟩ = l1 at *
          generalize Stp.less ⟨c.h, c.r⟩ ⟨a.h, a.r⟩ = l2 at *
          generalize Ck.has c.c a.r a.n = p at *
          generalize Ck.has a.c c.r c.n = q at *
          clear CB CL OO hga hgb UI
          go_upto_region 9 with (fail)
          refine Lex.wp_region_lex (by kernel_rfl) (by kernel_rfl) (by rfl) ?_
          repeat (first | (refine Lex.lex_skip (by rfl) (by rfl) (by rfl) ?_; simp only [Act.put, List.setIfInBounds_toArray, List.set_cons_zero, List.set_cons_succ]) | (refine Lex.lex_pure (c := ?_) (by rfl) (by rfl) (fun w' hC => ?_) (by rfl) ?_; rotate_left 1; (obtain ⟨e0, e1, e2, e3, e4, e5, e6, e7, e8, e9, e10, e11⟩ := EI.out w' (UK.out.trans hC); obtain ⟨f0, f1, f2, f3, f4, f5, f6, f7, f8, f9, f10, f11⟩ := EK.out w' (UK.out.trans hC); go_simp; rfl); simp only [Act.put, List.setIfInBounds_toArray, List.set_cons_zero, List.set_cons_succ]))
          refine Lex.lex_callv (.bool p) (by rfl) (by rfl) (fun w' => by go_simp) (fun w' hC => B1.out w') (by rfl) ?_
          simp only [Act.put, List.setIfInBounds_toArray, List.set_cons_zero, List.set_cons_succ]
          repeat (first | (refine Lex.lex_skip (by rfl) (by rfl) (by rfl) ?_; simp only [Act.put, List.setIfInBounds_toArray, List.set_cons_zero, List.set_cons_succ]) | (refine Lex.lex_pure (c := ?_) (by rfl) (by rfl) (fun w' hC => ?_) (by rfl) ?_; rotate_left 1; (go_simp; rfl); simp only [Act.put, List.setIfInBounds_toArray, List.set_cons_zero, List.set_cons_succ]))
          refine Lex.lex_nil (fun w5 hC => ?_)
          simp only [Lex.fill]
          have U5 := Lib.hid (UK.out.trans hC)
          clear hC B1
          go_upto_region 10 with (fail)
          refine Lex.wp_region_lex (by kernel_rfl) (by kernel_rfl) (by rfl) ?_
          repeat (first | (refine Lex.lex_skip (by rfl) (by rfl) (by rfl) ?_; simp only [Act.put, List.setIfInBounds_toArray, List.set_cons_zero, List.set_cons_succ]) | (refine Lex.lex_pure (c := ?_) (by rfl) (by rfl) (fun w' hC => ?_) (by rfl) ?_; rotate_left 1; (obtain ⟨e0, e1, e2, e3, e4, e5, e6, e7, e8, e9, e10, e11⟩ := EI.out w' (U5.out.trans hC); obtain ⟨f0, f1, f2, f3, f4, f5, f6, f7, f8, f9, f10, f11⟩ := EK.out w' (U5.out.trans hC); go_simp; rfl); simp only [Act.put, List.setIfInBounds_toArray, List.set_cons_zero, List.set_cons_succ]))
          refine Lex.lex_callv (.bool q) (by rfl) (by rfl) (fun w' => by go_simp) (fun w' hC => B2.out w') (by rfl) ?_
          simp only [Act.put, List.setIfInBounds_toArray, List.set_cons_zero, List.set_cons_succ]
          repeat (first | (refine Lex.lex_skip (by rfl) (by rfl) (by rfl) ?_; simp only [Act.put, List.setIfInBounds_toArray, List.set_cons_zero, List.set_cons_succ]) | (refine Lex.lex_pure (c := ?_) (by rfl) (by rfl) (fun w' hC => ?_) (by rfl) ?_; rotate_left 1; (go_simp; rfl); simp only [Act.put, List.setIfInBounds_toArray, List.set_cons_zero, List.set_cons_succ]))
          refine Lex.lex_nil (fun w6 hC => ?_)
          simp only [Lex.fill]
          have U6 := Lib.hid (U5.out.trans hC)
          clear hC B2 U5
          go_upto_region 11 with (fail)
          go_cut [62] (fun v62 wx => v62 = .bool false ∧ Hid (Lex.Up w3 wx))
          case first =>
            cases p
            · clear O1 O3
              refine Lex.wp_region_lex (by kernel_rfl) (by kernel_rfl) (by rfl) ?_
              repeat (first | (refine Lex.lex_skip (by rfl) (by rfl) (by rfl) ?_; simp only [Act.put, List.setIfInBounds_toArray, List.set_cons_zero, List.set_cons_succ]) | (refine Lex.lex_pure (c := ?_) (by rfl) (by rfl) (fun w' hC => ?_) (by rfl) ?_; rotate_left 1; (go_simp; rfl); simp only [Act.put, List.setIfInBounds_toArray, List.set_cons_zero, List.set_cons_succ]))
              refine Lex.lex_nil (fun w7 hC => ?_)
              simp only [Lex.fill]
              go_wp2_with fail
              go_meet
              exact ⟨rfl, Lib.hid (U6.out.trans hC)⟩
            · obtain ⟨rfl, o2⟩ := O1.out rfl
              have hd : decide (c.h ≤ a.h) = false := by simpa using o2
              clear O3 o2
              refine Lex.wp_region_lex (by kernel_rfl) (by kernel_rfl) (by rfl) ?_
              repeat (first | (refine Lex.lex_skip (by rfl) (by rfl) (by rfl) ?_; simp only [Act.put, List.setIfInBounds_toArray, List.set_cons_zero, List.set_cons_succ]) | (refine Lex.lex_pure (c := ?_) (by rfl) (by rfl) (fun w' hC => ?_) (by rfl) ?_; rotate_left 1; (obtain ⟨e0, e1, e2, e3, e4, e5, e6, e7, e8, e9, e10, e11⟩ := EI.out w' (U6.out.trans hC); obtain ⟨f0, f1, f2, f3, f4, f5, f6, f7, f8, f9, f10, f11⟩ := EK.out w' (U6.out.trans hC); go_simp; rfl); simp only [Act.put, List.setIfInBounds_toArray, List.set_cons_zero, List.set_cons_succ]))
              refine Lex.lex_nil (fun w7 hC => ?_)
              simp only [Lex.fill]
              go_wp2_with fail
              go_meet
              exact ⟨rfl, Lib.hid (U6.out.trans hC)⟩
          case rest =>
            obtain ⟨rfl, U7⟩ := hcut
            clear O1 U6
            obtain ⟨e0, e1, e2, e3, e4, e5, e6, e7, e8, e9, e10, e11⟩ := EI.out wc U7.out
            have ltb := EvSl.blk (SE.out.up U7.out) (by omega)
            go_upto_region 13 with (fail)
            go_region
            obtain ⟨W8, hW⟩ : ∃ W8, W8 = (wc.alloc (.cells #[.int .i64 a.h, .int .i64 a.r] 53)).drew := ⟨_, rfl⟩
            have S8 := Lib.hid (show Blk W8 wc.heap.size #[.int .i64 a.h, .int .i64 a.r] 53 by rw [hW]; exact Blk.new wc _ _)
            have U8 := Lib.hid (show Lex.Up w3 W8 by rw [hW]; exact (U7.out.alloc U7.out.size _).drew)
            have lt8 : wc.heap.size < W8.heap.size := S8.out.lt
            rw [← hW]
            clear hW e0 e1 e2 e3 e4 e5 e6 e7 e8 e9 e10 e11 ltb
            obtain ⟨f0, f1, f2, f3, f4, f5, f6, f7, f8, f9, f10, f11⟩ := EK.out W8 U8.out
            have ltb := EvSl.blk (SE.out.up U8.out) (by omega)
            go_upto_region 14 with (fail)
            go_region
            obtain ⟨W9, hW⟩ : ∃ W9, W9 = (W8.alloc (.cells #[.int .i64 c.h, .int .i64 c.r] 53)).drew := ⟨_, rfl⟩
            have T9 := Lib.hid (show Blk W9 W8.heap.size #[.int .i64 c.h, .int .i64 c.r] 53 by rw [hW]; exact Blk.new W8 _ _)
            have S9 := Lib.hid (show Blk W9 wc.heap.size #[.int .i64 a.h, .int .i64 a.r] 53 by rw [hW]; exact S8.out.alloc _)
            have U9 := Lib.hid (show Lex.Up w3 W9 by rw [hW]; exact (U8.out.alloc U8.out.size _).drew)
            rw [← hW]
            clear hW f0 f1 f2 f3 f4 f5 f6 f7 f8 f9 f10 f11 ltb S8 U8 U7
            have PX := Lib.hid (fun w' (hu : Lex.Up W9 w') => (show w'.cell? ⟨wc.heap.size, 0, none⟩ = some (.int .i64 a.h) ∧ w'.cell? ⟨wc.heap.size, 1, none⟩ = some (.int .i64 a.r) ∧ w'.cell? ⟨W8.heap.size, 0, none⟩ = some (.int .i64 c.h) ∧ w'.cell? ⟨W8.heap.size, 1, none⟩ = some (.int .i64 c.r) from
              ⟨(S9.out.up hu).cell rfl, (S9.out.up hu).cell rfl, (T9.out.up hu).cell rfl, (T9.out.up hu).cell rfl⟩))
            clear S9 T9
            generalize wc.heap.size = ba at *
            generalize W8.heap.size = bc at *
            go_upto_region 15 with (fail)
            go_cut [96] (fun v96 wx => v96 = .bool false ∧ Hid (Lex.Up w3 wx))
            case first =>
              by_cases hik : i = k
              · subst hik
                have hd : ((i : Int) != (i : Int)) = false := by simp
                clear O2 O3 L1 L2
                refine Lex.wp_region_lex (by kernel_rfl) (by kernel_rfl) (by rfl) ?_
                repeat (first | (refine Lex.lex_skip (by rfl) (by rfl) (by rfl) ?_; simp only [Act.put, List.setIfInBounds_toArray, List.set_cons_zero, List.set_cons_succ]) | (refine Lex.lex_pure (c := ?_) (by rfl) (by rfl) (fun w' hC => ?_) (by rfl) ?_; rotate_left 1; (go_simp; rfl); simp only [Act.put, List.setIfInBounds_toArray, List.set_cons_zero, List.set_cons_succ]))
                refine Lex.lex_nil (fun w7 hC => ?_)
                simp only [Lex.fill]
                go_wp2_with fail
                go_meet
                exact ⟨rfl, Lib.hid (U9.out.trans hC)⟩
              · have hd : ((i : Int) != (k : Int)) = true := by simp; omega
                have o2 := O2.out hik
                have HK := Lib.hid hik
                clear O3 O2 hik
                refine Lex.wp_region_lex (by kernel_rfl) (by kernel_rfl) (by rfl) ?_
                repeat (first | (refine Lex.lex_skip (by rfl) (by rfl) (by rfl) ?_; simp only [Act.put, List.setIfInBounds_toArray, List.set_cons_zero, List.set_cons_succ]) | (refine Lex.lex_pure (c := ?_) (by rfl) (by rfl) (fun w' hC => ?_) (by rfl) ?_; rotate_left 1; (obtain ⟨x0, x1, x2, x3⟩ := PX.out w' hC; go_simp; rfl); simp only [Act.put, List.setIfInBounds_toArray, List.set_cons_zero, List.set_cons_succ]))
                refine Lex.lex_callv (.bool l1) (by rfl) (by rfl) (fun w' => by go_simp) (fun w' hC => L1.out w') (by rfl) ?_
                simp only [Act.put, List.setIfInBounds_toArray, List.set_cons_zero, List.set_cons_succ]
                repeat (first | (refine Lex.lex_skip (by rfl) (by rfl) (by rfl) ?_; simp only [Act.put, List.setIfInBounds_toArray, List.set_cons_zero, List.set_cons_succ]) | (refine Lex.lex_pure (c := ?_) (by rfl) (by rfl) (fun w' hC => ?_) (by rfl) ?_; rotate_left 1; (obtain ⟨x0, x1, x2, x3⟩ := PX.out w' hC; go_simp; rfl); simp only [Act.put, List.setIfInBounds_toArray, List.set_cons_zero, List.set_cons_succ]))
                refine Lex.lex_callv (.bool l2) (by rfl) (by rfl) (fun w' => by go_simp) (fun w' hC => L2.out w') (by rfl) ?_
                simp only [Act.put, List.setIfInBounds_toArray, List.set_cons_zero, List.set_cons_succ]
                repeat (first | (refine Lex.lex_skip (by rfl) (by rfl) (by rfl) ?_; simp only [Act.put, List.setIfInBounds_toArray, List.set_cons_zero, List.set_cons_succ]) | (refine Lex.lex_pure (c := ?_) (by rfl) (by rfl) (fun w' hC => ?_) (by rfl) ?_; rotate_left 1; (go_simp; rfl); simp only [Act.put, List.setIfInBounds_toArray, List.set_cons_zero, List.set_cons_succ]))
                refine Lex.lex_nil (fun w7 hC => ?_)
                simp only [Lex.fill]
                go_wp2_with fail
                go_meet
                exact ⟨rfl, Lib.hid (U9.out.trans hC)⟩
            case rest =>
              obtain ⟨rfl, U10⟩ := hcut
              clear O2 L1 L2 PX
              go_wp2
              go_loopw [11] (fun v wr => L1Rel es.length w3 v wr) (fun v _ => es.length - (intOf v).toNat)
              case atStart => exact ⟨0, by omega, rfl, U10⟩
              case round =>
                obtain ⟨j, hj, rfl, UJ⟩ := hrel
                by_cases hj5 : j < es.length
                · have hj5' : (j : Int) < es.length := by omega
                  have EJ := Lib.hid (fun w' (hu : Lex.Up w3 w') => ev_at (SE.out.up hu) hj5)
                  have o3 := Lib.hid (O3.out j hj5)
                  generalize hgj : Ev.nth es j = d at *
                  have D3 := Lib.hid (fun w' => B3.out d w')
                  have D4 := Lib.hid (fun w' => B4.out d w')
                  generalize Ck.has d.c c.r c.n = y at *
                  generalize Ck.has d.c a.r a.n = z at *
                  clear O3 B3 B4 hgj
                  go_upto_region 20 with (fail)
                  cases p
                  · refine Lex.wp_region_lex (by kernel_rfl) (by kernel_rfl) (by rfl) ?_
                    repeat (first | (refine Lex.lex_skip (by rfl) (by rfl) (by rfl) ?_; simp only [Act.put, List.setIfInBounds_toArray, List.set_cons_zero, List.set_cons_succ]) | (refine Lex.lex_pure (c := ?_) (by rfl) (by rfl) (fun w' hC => ?_) (by rfl) ?_; rotate_left 1; (go_simp; rfl); simp only [Act.put, List.setIfInBounds_toArray, List.set_cons_zero, List.set_cons_succ]))
                    refine Lex.lex_nil (fun w7 hC => ?_)
                    simp only [Lex.fill]
                    have U11 := Lib.hid (UJ.out.trans hC)
                    clear hC
                    go_wp2
                    go_roundw
                    case rel => exact ⟨j + 1, by omega, by go_num, U11⟩
                    case measure => simp [intOf]; omega
                  cases y
                  · refine Lex.wp_region_lex (by kernel_rfl) (by kernel_rfl) (by rfl) ?_
                    repeat (first | (refine Lex.lex_skip (by rfl) (by rfl) (by rfl) ?_; simp only [Act.put, List.setIfInBounds_toArray, List.set_cons_zero, List.set_cons_succ]) | (refine Lex.lex_pure (c := ?_) (by rfl) (by rfl) (fun w' hC => ?_) (by rfl) ?_; rotate_left 1; (obtain ⟨e0, e1, e2, e3, e4, e5, e6, e7, e8, e9, e10, e11⟩ := EJ.out w' (UJ.out.trans hC); obtain ⟨f0, f1, f2, f3, f4, f5, f6, f7, f8, f9, f10, f11⟩ := EK.out w' (UJ.out.trans hC); go_simp; rfl); simp only [Act.put, List.setIfInBounds_toArray, List.set_cons_zero, List.set_cons_succ]))
                    refine Lex.lex_callv (.bool false) (by rfl) (by rfl) (fun w' => by go_simp) (fun w' hC => D3.out w') (by rfl) ?_
                    simp only [Act.put, List.setIfInBounds_toArray, List.set_cons_zero, List.set_cons_succ]
                    repeat (first | (refine Lex.lex_skip (by rfl) (by rfl) (by rfl) ?_; simp only [Act.put, List.setIfInBounds_toArray, List.set_cons_zero, List.set_cons_succ]) | (refine Lex.lex_pure (c := ?_) (by rfl) (by rfl) (fun w' hC => ?_) (by rfl) ?_; rotate_left 1; (go_simp; rfl); simp only [Act.put, List.setIfInBounds_toArray, List.set_cons_zero, List.set_cons_succ]))
                    refine Lex.lex_nil (fun w7 hC => ?_)
                    simp only [Lex.fill]
                    have U11 := Lib.hid (UJ.out.trans hC)
                    clear hC
                    go_wp2
                    go_roundw
                    case rel => exact ⟨j + 1, by omega, by go_num, U11⟩
                    case measure => simp [intOf]; omega
                  · obtain rfl := o3.out rfl rfl
                    refine Lex.wp_region_lex (by kernel_rfl) (by kernel_rfl) (by rfl) ?_
                    repeat (first | (refine Lex.lex_skip (by rfl) (by rfl) (by rfl) ?_; simp only [Act.put, List.setIfInBounds_toArray, List.set_cons_zero, List.set_cons_succ]) | (refine Lex.lex_pure (c := ?_) (by rfl) (by rfl) (fun w' hC => ?_) (by rfl) ?_; rotate_left 1; (obtain ⟨e0, e1, e2, e3, e4, e5, e6, e7, e8, e9, e10, e11⟩ := EJ.out w' (UJ.out.trans hC); obtain ⟨f0, f1, f2, f3, f4, f5, f6, f7, f8, f9, f10, f11⟩ := EK.out w' (UJ.out.trans hC); go_simp; rfl); simp only [Act.put, List.setIfInBounds_toArray, List.set_cons_zero, List.set_cons_succ]))
                    refine Lex.lex_callv (.bool true) (by rfl) (by rfl) (fun w' => by go_simp) (fun w' hC => D3.out w') (by rfl) ?_
                    simp only [Act.put, List.setIfInBounds_toArray, List.set_cons_zero, List.set_cons_succ]
                    repeat (first | (refine Lex.lex_skip (by rfl) (by rfl) (by rfl) ?_; simp only [Act.put, List.setIfInBounds_toArray, List.set_cons_zero, List.set_cons_succ]) | (refine Lex.lex_pure (c := ?_) (by rfl) (by rfl) (fun w' hC => ?_) (by rfl) ?_; rotate_left 1; (obtain ⟨e0, e1, e2, e3, e4, e5, e6, e7, e8, e9, e10, e11⟩ := EJ.out w' (UJ.out.trans hC); obtain ⟨f0, f1, f2, f3, f4, f5, f6, f7, f8, f9, f10, f11⟩ := EI.out w' (UJ.out.trans hC); go_simp; rfl); simp only [Act.put, List.setIfInBounds_toArray, List.set_cons_zero, List.set_cons_succ]))
                    refine Lex.lex_callv (.bool true) (by rfl) (by rfl) (fun w' => by go_simp) (fun w' hC => D4.out w') (by rfl) ?_
                    simp only [Act.put, List.setIfInBounds_toArray, List.set_cons_zero, List.set_cons_succ]
                    repeat (first | (refine Lex.lex_skip (by rfl) (by rfl) (by rfl) ?_; simp only [Act.put, List.setIfInBounds_toArray, List.set_cons_zero, List.set_cons_succ]) | (refine Lex.lex_pure (c := ?_) (by rfl) (by rfl) (fun w' hC => ?_) (by rfl) ?_; rotate_left 1; (go_simp; rfl); simp only [Act.put, List.setIfInBounds_toArray, List.set_cons_zero, List.set_cons_succ]))
                    refine Lex.lex_nil (fun w7 hC => ?_)
                    simp only [Lex.fill]
                    have U11 := Lib.hid (UJ.out.trans hC)
                    clear hC
                    go_wp2
                    go_roundw
                    case rel => exact ⟨j + 1, by omega, by go_num, U11⟩
                    case measure => simp [intOf]; omega
                · obtain rfl : j = es.length := by omega
                  go_wp2
                  go_roundw
                  case rel => exact ⟨k + 1, by omega, by go_num, UJ⟩
                  case measure => simp [intOf]; omega
        · obtain rfl : k = es.length := by omega
          go_wp2
          go_roundw
          case rel => exact ⟨i + 1, by omega, by go_num, UK⟩
          case measure => simp [intOf]; omega
    · obtain rfl : i = es.length := by omega
      go_wp2
      go_ret
      exact ⟨rfl, U3.out.trans UI.out⟩
end Go.Proofs.Ythgfbnkggdlokaa
