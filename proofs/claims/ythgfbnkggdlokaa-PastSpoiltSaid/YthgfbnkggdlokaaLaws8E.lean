/-
  The walk of PastSpoilt.
-/
import Derived.Test.YthgfbnkggdlokaaLaws8A
import Derived.Test.YthgfbnkggdlokaaPstY
import Derived.Test.YthgfbnkggdlokaaLexA
import Derived.Test.YthgfbnkggdlokaaEvBl
namespace Go.Proofs.Ythgfbnkggdlokaa
open Go.RowKit
set_option maxRecDepth 100000
set_option maxRecDepth 100000

theorem right_val (es : List Ev) (A : Option Addr) (n cap : Nat) (w : World) (h : EvSl w A n cap es) (z : Bool) (hz : Pst.right es = z) :
    Calls Try.prog 22 #[.slice A n cap] w fun x w' => x = .returned (.bool z) ∧ Lex.Up w w' :=
  (right_any es A n cap w h).mono fun e w' ⟨h1, h3⟩ => ⟨by rw [h1, hz], h3⟩
theorem right_fails {es : List Ev} (h : ¬ Pst.RightP es) : Pst.right es = false := by
  rw [← Bool.not_eq_true, Pst.right_iff]; exact h
/-- What the switch leaves: a list that is no right past. -/
def SpRel (W : World) (v : Value) (wx : World) : Prop := ∃ S A cap, v = .slice A S.length cap ∧ S.length ≤ 41 ∧ Hid (EvSl wx A S.length cap S) ∧ Hid (Pst.right S = false) ∧ Hid (Lex.Up W wx)
def NdRel (es : List Ev) (e : Ev) (W : World) (v12 v13 : Value) (wr : World) : Prop := ∃ i : Nat, i ≤ es.length ∧ v12 = .bool (Pst.need es e i) ∧ v13 = .int .i64 i ∧ Hid (Lex.Up W wr)

theorem evc_drop : ∀ (es : List Ev) (u : Nat), (evc es).drop (u * 12) = evc (es.drop u)
  | [], u => by simp [evc]
  | e :: es, 0 => by simp
  | e :: es, u + 1 => by
    rw [evc, List.drop_succ_cons, ← evc_drop es u, List.drop_append, Ev.cells_len, show (u + 1) * 12 - 12 = u * 12 by omega, List.drop_of_length_le (by rw [Ev.cells_len]; omega), List.nil_append]

theorem EvSl.blk8 {w : World} {b off n cap : Nat} {es : List Ev} (h : EvSl w (some ⟨b, off, Option.none⟩) n cap es) (h0 : 0 < n) : b < w.heap.size := by
  obtain ⟨b', off', e, hb, _⟩ := h.2.2.2 h0
  obtain ⟨rfl, rfl⟩ : b = b' ∧ off = off' := by simpa using e
  exact hb
set_option maxHeartbeats 8000000 in
theorem law_spoilt (A : Option Addr) (n cap : Nat) (cs : List Ch) (which how : Nat) (w : World) (hs : ChSl w A n cap cs) (hok : ∀ c ∈ cs, Ch.Ok c) (hw1 : which < 65536) (hw2 : how < 256) :
    Calls Try.prog 7 #[.slice A n cap, .int .u16 which, .int .u8 how] w fun e w' => e = .returned (.bool true) ∧ Below w.heap.size w w' := by
  go_enter Try.func7, Try.ntmps7
  go_wp2_with fail
  refine (shown_any _).mono ?_
  rintro x w1 ⟨rfl, h1⟩
  have SC := Lib.hid (hs.up h1)
  have U1 := Lib.hid h1
  clear h1
  go_wp2_with fail
  refine (short_any A n cap _ cs SC.out).mono ?_
  rintro x w2 ⟨⟨m, hm, hmn, rfl⟩, rfl⟩
  go_wp2_with fail
  refine (make_any (cs.take m) A m cap _ (SC.out.take hmn) (fun c hc => hok c (List.mem_of_mem_take hc)) (by omega)).mono ?_
  rintro x w3 ⟨⟨es, H, v3, rfl, hmd, hlen, hown⟩, h3⟩
  obtain ⟨A3, cap3, rfl, hS⟩ := Sl.of_own hown
  have U3 := Lib.hid (show Lex.Up w w3 from U1.out.trans h3)
  have SE := Lib.hid (show EvSl w3 A3 es.length cap3 es from hS)
  have MD := Lib.hid hmd
  have hN : es.length ≤ 40 := by omega
  clear hmd hown hS h3 SC U1
  have R := Lib.hid (Pst.made_right MD.out (by omega))
  clear hs hok MD
  by_cases h0 : es.length = 0
  · go_wp2
    go_ret
    exact ⟨rfl, U3.out⟩
  have hpos : 0 < es.length := by omega
  obtain ⟨b, off, rfl⟩ := SE.out.addr hpos
  have hcapS := SE.out.2.1
  have hcapM := SE.out.2.2.1
  obtain ⟨k, hk, hk5⟩ : ∃ k : Nat, ((which : Int)).tmod (es.length : Int) = (k : Int) ∧ k < es.length := ⟨which % es.length, by rw [Int.tmod_eq_emod_of_nonneg (by omega)]; simp, Nat.mod_lt _ hpos⟩
  obtain ⟨x, hx, hx4⟩ : ∃ x : Nat, ((how : Int)).tmod 4 = (x : Int) ∧ x < 4 := ⟨how % 4, by rw [Int.tmod_eq_emod_of_nonneg (by omega)]; omega, by omega⟩
  have hk5' : (k : Int) < es.length := by omega
  have hn0 : ¬ ((es.length : Int) = 0) := by omega
  have hn1 : ((es.length : Int) == 0) = false := by simpa using h0
  clear h0
  have WO := Lib.hid (Pst.without R.out hk5)
  have NS := Lib.hid (fun i hi => Pst.need_succ (es := es) (Ev.nth es k) (i := i) hi)
  have EK := Lib.hid (fun w' (hu : Lex.Up w3 w') => ev_at (SE.out.up hu) hk5)
  have O0 := Lib.hid (World.ownsRow_made (base := w3.heap.size) (e := 51) (size := 12) w3 #[] 0 (Nat.le_refl _) (Nat.zero_le _) rfl)
  have S0 := Lib.hid (SE.out.up ((Below.refl w3.heap.size w3).alloc (Nat.le_refl _) (.cells #[] 51)))
  have U0 := Lib.hid (show Below w3.heap.size w3 (w3.alloc (.cells #[] 51)) from (Below.refl _ _).alloc (Nat.le_refl _) _)
  go_wp2_with (at_builtin; refine ESe.wpList_append (by rfl) _ _ rfl w3.heap.size _ 0 [] rfl O0.out (some ⟨b, off, none⟩) es.length cap3 (evc es) rfl S0.out (evc_one' _) (by omega) (by simp only [maxLen]; omega) U0.out.size ?_)
  intro v10 w4 hown hg
  have O4 := Lib.hid (show w4.ownsRow w3.heap.size 51 12 v10 es.length (evc es) by simpa using hown)
  have U4 := Lib.hid (show Lex.Up w3 w4 from Below.grown U0.out hg U0.out.size (fun j hj => by simp [Value.ownBlock] at hj; omega))
  clear hown hg O0 S0 U0
  obtain ⟨g, cap4, rfl, hgB, hgc⟩ := own_blk O4.out hpos
  have G := (Ev.good_iff _).1 (R.out.may _ (Pst.nth_mem hk5))
  have gr0 := G.r0; have gr5 := G.r5; have gh1 := G.h1; have ghM := G.hM; have gn1 := G.n1; have gnM := G.nM
  have hmc : (k : Int) ≤ cap3 := by omega
  have hwk : IntKind.i64.wrap ((k : Int) + 1) = (k : Int) + 1 := by rw [IntKind.wrap_i64]; omega
  have hk1 : (0 : Int) ≤ (k : Int) + 1 := by omega
  have hk2 : (k : Int) + 1 ≤ es.length := by omega
  have hk3 : ((k : Int) + 1).toNat = k + 1 := by omega
  clear G
  have cases4 : x = 0 ∨ x = 1 ∨ x = 2 ∨ x = 3 := by omega
  rcases cases4 with rfl | rfl | rfl | rfl
  · have RS := Lib.hid (right_fails (Pst.spoilt_high R.out hk5 rfl))
    have hv : (evc es)[k * 12 + 7]? = some (.int .i64 (Ev.nth es k).h) := evc_nth es k hk5 7 _ (by omega) rfl
    obtain ⟨c7, f7⟩ := own_at O4.out hv
    have O5 := Lib.hid (own_set O4.out (j := k * 12 + 7) (.int .i64 ((Ev.nth es k).h + 1)))
    rw [evc_set es k { Ev.nth es k with h := (Ev.nth es k).h + 1 } 7 _ hk5 (by omega) rfl] at O5
    have U5 := Lib.hid (show Lex.Up w3 (w4.setCell ⟨g, k * 12 + 7, none⟩ (.int .i64 ((Ev.nth es k).h + 1))) from U4.out.setCell hgB _)
    have SS := Lib.hid (show EvSl (w4.setCell ⟨g, k * 12 + 7, none⟩ (.int .i64 ((Ev.nth es k).h + 1))) (some ⟨g, 0, none⟩) es.length cap4 (es.set k { Ev.nth es k with h := (Ev.nth es k).h + 1 }) by
      obtain ⟨A', c', q, h'⟩ := Sl.of_own O5.out
      injection q with q1 _ q3
      subst q1 q3
      exact h')
    clear O4 O5 U4 hv
    generalize es.set k { Ev.nth es k with h := (Ev.nth es k).h + 1 } = S at *
    go_upto_region 15 with (fail)
    refine wp_named (fun W hW => ?_)
    rw [show (w4.setCell ⟨g, k * 12 + 7, none⟩ (.int .i64 ((Ev.nth es k).h + 1))) = W from hW.symm] at SS U5
    clear hW
    obtain ⟨B6, hB6⟩ : ∃ B6, B6 = W.heap.size := ⟨_, rfl⟩
    have HB6 := Lib.hid hB6
    clear hB6
    have lD : (es.take k ++ es.drop (k + 1)).length = k + (es.length - (k + 1)) := by simp; omega
    go_cut [11] (fun v11 wx => ∃ A11 cap11, v11 = .slice A11 (k + (es.length - (k + 1))) cap11 ∧ Hid (EvSl wx A11 (k + (es.length - (k + 1))) cap11 (es.take k ++ es.drop (k + 1))) ∧ Hid (Lex.Up W wx))
    case first =>
      by_cases hcap : cap3 = k + 1
      · subst hcap
        have hmcA : (k : Int) ≤ (k : Int) + 1 := by omega
        have hmcB : (es.length : Int) ≤ (k : Int) + 1 := by omega
        refine Lex.wp_region_lex_tail 9 (by kernel_rfl) (by kernel_rfl) (by kernel_rfl) (by rfl) ?_
        simp only [List.take_succ_cons, List.take_zero, List.drop_succ_cons, List.drop_zero]
        refine Lex.lex_make (v := fun w => .slice (some ⟨w.heap.size, 0, none⟩) 0 0) (f := fun w => w.alloc (.cells #[] 51)) 76 (emptyFact 51 B6) (by rfl) (by rfl) (by rfl) (emptyFact_up _ _) (fun w' hC => ?_) (fun w' hC => empty_made w' _ _ (by rw [HB6.out]; exact hC.size)) (by rfl) ?_
        · have := hC; clear this; go_simp
        repeat (first | (refine Lex.lex_skip (by rfl) (by rfl) (by rfl) ?_; simp only [Act.put, List.setIfInBounds_toArray, List.set_cons_zero, List.set_cons_succ]) | (refine Lex.lex_pure (c := ?_) (by rfl) (by rfl) (fun w' hC => ?_) (by rfl) ?_; rotate_left 1; (go_simp; rfl); simp only [Act.put, List.setIfInBounds_toArray, List.set_cons_zero, List.set_cons_succ]))
        refine ESe.lex_copy 80 (.tmp 79) (by rfl) (by rfl) (fun u => by rfl) (by rfl) (some ⟨b, off, none⟩) k (k + 1) (evc (es.take k)) (fun u => ⟨by rfl, by rfl⟩) (fun w' hC => (SE.out.up (U5.out.trans hC)).take (Nat.le_of_lt hk5)) (by omega) (by simp only [maxLen]; omega) (fun w' hC => by rw [HB6.out]; exact hC.size) (by rfl) ?_
        repeat (first | (refine Lex.lex_skip (by rfl) (by rfl) (by rfl) ?_; simp only [Act.put, List.setIfInBounds_toArray, List.set_cons_zero, List.set_cons_succ]) | (refine Lex.lex_pure (c := ?_) (by rfl) (by rfl) (fun w' hC => ?_) (by rfl) ?_; rotate_left 1; (go_simp; rfl); simp only [Act.put, List.setIfInBounds_toArray, List.set_cons_zero, List.set_cons_succ]))
        refine Lex.lex_nil (fun w7 hC => ?_)
        simp only [Lex.fill]
        rintro v80 h80 v76 ⟨b76, rfl, _⟩
        have O7 := Lib.hid (show w7.ownsRow B6 51 12 v80 k (evc (es.take k)) from h80)
        obtain ⟨A80, cap80, rfl, _⟩ := Sl.of_own h80
        have V7 := Lib.hid hC
        have Z7 : B6 ≤ w7.heap.size := by rw [HB6.out]; exact hC.size
        have OB := Lib.hid (own_base O7.out)
        have SD := Lib.hid (show Sl w7 12 (some ⟨b, off, none⟩) 0 0 (evc (es.drop (k + 1))) by
          rw [List.drop_of_length_le (by omega)]
          exact Sl.empty w7 12 _ 0 (by omega))
        clear hC h80
        change wpList _ _ _ _ _ w7
        go_wp2_with (at_builtin; refine ESe.wpList_append (by rfl) _ _ rfl B6 _ k (evc (es.take k)) rfl O7.out (some ⟨b, off, none⟩) 0 0 (evc (es.drop (k + 1))) rfl SD.out (evc_one' _) (by omega) (by simp only [maxLen]; omega) Z7 ?_)
        intro v11 w8 hown hg
        obtain ⟨A11, cap11, rfl, S11⟩ := Sl.of_own hown
        have V8 := Lib.hid (show Lex.Up W w8 by have := Below.grown (B := B6) (by rw [HB6.out]; exact V7.out) hg Z7 OB.out; rw [HB6.out] at this; exact this)
        have SW := Lib.hid (show EvSl w8 A11 (k + 0) cap11 (es.take k ++ es.drop (k + 1)) by unfold EvSl; rw [evc_append]; exact S11)
        clear hown hg V7 Z7 OB SD O7 S11
        go_wp2_with fail
        go_meet
        have e0 : es.length - (k + 1) = 0 := by omega
        exact ⟨A11, cap11, by rw [e0]; rfl, by rw [e0]; exact SW, V8⟩
      · have hcap' : ¬ k + 1 = cap3 := fun q => hcap q.symm
        refine Lex.wp_region_lex_tail 9 (by kernel_rfl) (by kernel_rfl) (by kernel_rfl) (by rfl) ?_
        simp only [List.take_succ_cons, List.take_zero, List.drop_succ_cons, List.drop_zero]
        refine Lex.lex_make (v := fun w => .slice (some ⟨w.heap.size, 0, none⟩) 0 0) (f := fun w => w.alloc (.cells #[] 51)) 76 (emptyFact 51 B6) (by rfl) (by rfl) (by rfl) (emptyFact_up _ _) (fun w' hC => ?_) (fun w' hC => empty_made w' _ _ (by rw [HB6.out]; exact hC.size)) (by rfl) ?_
        · have := hC; clear this; go_simp
        repeat (first | (refine Lex.lex_skip (by rfl) (by rfl) (by rfl) ?_; simp only [Act.put, List.setIfInBounds_toArray, List.set_cons_zero, List.set_cons_succ]) | (refine Lex.lex_pure (c := ?_) (by rfl) (by rfl) (fun w' hC => ?_) (by rfl) ?_; rotate_left 1; (go_simp; rfl); simp only [Act.put, List.setIfInBounds_toArray, List.set_cons_zero, List.set_cons_succ]))
        refine ESe.lex_copy 80 (.tmp 79) (by rfl) (by rfl) (fun u => by rfl) (by rfl) (some ⟨b, off, none⟩) k cap3 (evc (es.take k)) (fun u => ⟨by rfl, by rfl⟩) (fun w' hC => (SE.out.up (U5.out.trans hC)).take (Nat.le_of_lt hk5)) (by omega) (by simp only [maxLen]; omega) (fun w' hC => by rw [HB6.out]; exact hC.size) (by rfl) ?_
        repeat (first | (refine Lex.lex_skip (by rfl) (by rfl) (by rfl) ?_; simp only [Act.put, List.setIfInBounds_toArray, List.set_cons_zero, List.set_cons_succ]) | (refine Lex.lex_pure (c := ?_) (by rfl) (by rfl) (fun w' hC => ?_) (by rfl) ?_; rotate_left 1; (go_simp; rfl); simp only [Act.put, List.setIfInBounds_toArray, List.set_cons_zero, List.set_cons_succ]))
        refine Lex.lex_nil (fun w7 hC => ?_)
        simp only [Lex.fill]
        rintro v80 h80 v76 ⟨b76, rfl, _⟩
        have O7 := Lib.hid (show w7.ownsRow B6 51 12 v80 k (evc (es.take k)) from h80)
        obtain ⟨A80, cap80, rfl, _⟩ := Sl.of_own h80
        have V7 := Lib.hid hC
        have Z7 : B6 ≤ w7.heap.size := by rw [HB6.out]; exact hC.size
        have OB := Lib.hid (own_base O7.out)
        have SD := Lib.hid (show Sl w7 12 (some ⟨b, off + (k + 1) * 12, none⟩) (es.length - (k + 1)) (cap3 - (k + 1)) (evc (es.drop (k + 1))) by
          have := Sl.drop (SE.out.up (U5.out.trans hC)) (u := k + 1) (by omega)
          rwa [evc_drop] at this)
        clear hC h80
        change wpList _ _ _ _ _ w7
        go_wp2_with (at_builtin; refine ESe.wpList_append (by rfl) _ _ rfl B6 _ k (evc (es.take k)) rfl O7.out (some ⟨b, off + (k + 1) * 12, none⟩) (es.length - (k + 1)) (cap3 - (k + 1)) (evc (es.drop (k + 1))) rfl SD.out (evc_one' _) (by omega) (by simp only [maxLen]; omega) Z7 ?_)
        intro v11 w8 hown hg
        obtain ⟨A11, cap11, rfl, S11⟩ := Sl.of_own hown
        have V8 := Lib.hid (show Lex.Up W w8 by have := Below.grown (B := B6) (by rw [HB6.out]; exact V7.out) hg Z7 OB.out; rw [HB6.out] at this; exact this)
        have SW := Lib.hid (show EvSl w8 A11 (k + (es.length - (k + 1))) cap11 (es.take k ++ es.drop (k + 1)) by unfold EvSl; rw [evc_append]; exact S11)
        clear hown hg V7 Z7 OB SD O7 S11
        go_wp2_with fail
        go_meet
        exact ⟨A11, cap11, rfl, SW, V8⟩
    case rest =>
    obtain ⟨A11, cap11, rfl, SW, V8⟩ := hcut
    have SS8 := Lib.hid (SS.out.up V8.out)
    have U8 := Lib.hid (U5.out.trans V8.out)
    clear SS U5 V8
    have WO2 := WO
    generalize es.take k ++ es.drop (k + 1) = D at *
    generalize hgk : Ev.nth es k = c at *
    go_wp2
    go_loopw [12, 13] (fun v12 v13 wr => NdRel es c wc v12 v13 wr) (fun _ v _ => es.length - (intOf v).toNat)
    case atStart => exact ⟨0, by omega, rfl, rfl, Lib.hid (Lex.Up.refl _)⟩
    case round =>
      obtain ⟨i, hi, rfl, rfl, UI⟩ := hrel
      by_cases hi5 : i < es.length
      · have hi5' : (i : Int) < es.length := by omega
        have EI := Lib.hid (fun w' (hu : Lex.Up w3 w') => ev_at (SE.out.up hu) hi5)
        have NI := Lib.hid (NS.out i hi5)
        generalize hga : Ev.nth es i = a at *
        have B1 := Lib.hid (fun w' => below_any c a w')
        unfold Ev.val at B1
        generalize Ck.has a.c c.r c.n = q at *
        generalize Pst.need es c i = p at *
        clear hga NS WO WO2 SS8 SW
        go_upto_region 20 with (fail)
        cases p
        · refine Lex.wp_region_lex (by kernel_rfl) (by kernel_rfl) (by rfl) ?_
          repeat (first | (refine Lex.lex_skip (by rfl) (by rfl) (by rfl) ?_; simp only [Act.put, List.setIfInBounds_toArray, List.set_cons_zero, List.set_cons_succ]) | (refine Lex.lex_pure (c := ?_) (by rfl) (by rfl) (fun w' hC => ?_) (by rfl) ?_; rotate_left 1; (obtain ⟨e0, e1, e2, e3, e4, e5, e6, e7, e8, e9, e10, e11⟩ := EI.out w' (U8.out.trans (UI.out.trans hC)); obtain ⟨f0, f1, f2, f3, f4, f5, f6, f7, f8, f9, f10, f11⟩ := EK.out w' (U8.out.trans (UI.out.trans hC)); go_simp; rfl); simp only [Act.put, List.setIfInBounds_toArray, List.set_cons_zero, List.set_cons_succ]))
          refine Lex.lex_callv (.bool q) (by rfl) (by rfl) (fun w' => by go_simp) (fun w' hC => B1.out w') (by rfl) ?_
          simp only [Act.put, List.setIfInBounds_toArray, List.set_cons_zero, List.set_cons_succ]
          repeat (first | (refine Lex.lex_skip (by rfl) (by rfl) (by rfl) ?_; simp only [Act.put, List.setIfInBounds_toArray, List.set_cons_zero, List.set_cons_succ]) | (refine Lex.lex_pure (c := ?_) (by rfl) (by rfl) (fun w' hC => ?_) (by rfl) ?_; rotate_left 1; (go_simp; rfl); simp only [Act.put, List.setIfInBounds_toArray, List.set_cons_zero, List.set_cons_succ]))
          refine Lex.lex_nil (fun w9 hC => ?_)
          simp only [Lex.fill]
          have U9 := Lib.hid (UI.out.trans hC)
          clear hC
          go_wp2
          go_roundw
          case rel => exact ⟨i + 1, by omega, by rw [NI.out]; simp, by go_num, U9⟩
          case measure => simp [intOf]; omega
        · refine Lex.wp_region_lex (by kernel_rfl) (by kernel_rfl) (by rfl) ?_
          repeat (first | (refine Lex.lex_skip (by rfl) (by rfl) (by rfl) ?_; simp only [Act.put, List.setIfInBounds_toArray, List.set_cons_zero, List.set_cons_succ]) | (refine Lex.lex_pure (c := ?_) (by rfl) (by rfl) (fun w' hC => ?_) (by rfl) ?_; rotate_left 1; (go_simp; rfl); simp only [Act.put, List.setIfInBounds_toArray, List.set_cons_zero, List.set_cons_succ]))
          refine Lex.lex_nil (fun w9 hC => ?_)
          simp only [Lex.fill]
          have U9 := Lib.hid (UI.out.trans hC)
          clear hC
          go_wp2
          go_roundw
          case rel => exact ⟨i + 1, by omega, by rw [NI.out]; simp, by go_num, U9⟩
          case measure => simp [intOf]; omega
      · obtain rfl : i = es.length := by omega
        have WV := Lib.hid WO2.out
        generalize Pst.need es c es.length = p at *
        have C1 := Lib.hid (fun w' (hu : Lex.Up wr w') => right_val S (some ⟨g, 0, none⟩) (es.length) cap4 w' (SS8.out.up (UI.out.trans hu)) false RS.out)
        have C2 := Lib.hid (fun w' (hu : Lex.Up wr w') => right_val D A11 (k + (es.length - (k + 1))) cap11 w' (SW.out.up (UI.out.trans hu)) (!p) WV.out)
        clear WO WO2 NS SS8 SW WV EK
        go_wp2_with fail
        refine (C1.out _ (Lex.Up.refl _)).mono ?_
        rintro x w9 ⟨rfl, u1⟩
        have V1 := Lib.hid u1
        clear u1
        go_wp2_with fail
        refine (C2.out _ V1.out).mono ?_
        rintro x w10 ⟨rfl, u1⟩
        have V2 := Lib.hid (V1.out.trans u1)
        clear u1 C1 C2
        cases p
        · go_wp2
          go_ret
          exact ⟨rfl, U3.out.trans (U8.out.trans (UI.out.trans V2.out))⟩
        · go_wp2
          go_ret
          exact ⟨rfl, U3.out.trans (U8.out.trans (UI.out.trans V2.out))⟩
  · obtain ⟨r, hr, hr5⟩ : ∃ r : Nat, (Ev.nth es k).r = r ∧ r < 5 := ⟨(Ev.nth es k).r.toNat, by omega, by omega⟩
    obtain ⟨q, hq, hq5⟩ : ∃ q : Nat, ((r : Int) + 1).tmod 5 = (q : Int) ∧ q < 5 := ⟨(r + 1) % 5, by rw [Int.tmod_eq_emod_of_nonneg (by omega)]; omega, by omega⟩
    have hq5' : (q : Int) < 5 := by omega
    have hwr : IntKind.i64.wrap ((r : Int) + 1) = (r : Int) + 1 := by rw [IntKind.wrap_i64]; omega
    have hwl : IntKind.i64.wrap (1 + (es.length : Int)) = 1 + es.length := by rw [IntKind.wrap_i64]; omega
    have RS := Lib.hid (right_fails (Pst.spoilt_ctx hk5 hq5 rfl))
    have hv0 : (evc es)[k * 12 + 0]? = some (.int .i64 (Ev.nth es k).r) := evc_nth es k hk5 0 _ (by omega) rfl
    have hv : (evc es)[k * 12 + (2 + q)]? = some (.int .i64 ((Ev.nth es k).c.get q)) := evc_nth es k hk5 (2 + q) _ (by omega) (by
      match q, hq5 with
      | 0, _ | 1, _ | 2, _ | 3, _ | 4, _ => rfl)
    have c0 := (own_at O4.out hv0).1
    rw [hr, Nat.add_zero] at c0
    obtain ⟨c7, f7⟩ := own_at O4.out hv
    have O5 := Lib.hid (own_set O4.out (j := k * 12 + (2 + q)) (.int .i64 (1 + es.length)))
    rw [evc_set es k { Ev.nth es k with c := (Ev.nth es k).c.set q (1 + es.length) } (2 + q) _ hk5 (by omega) (by
      match q, hq5 with
      | 0, _ | 1, _ | 2, _ | 3, _ | 4, _ => simp [Ev.cells, Ck.set])] at O5
    rw [← Nat.add_assoc] at O5 c7 f7
    have U5 := Lib.hid (show Lex.Up w3 ((w4.drew).setCell ⟨g, k * 12 + 2 + q, none⟩ (.int .i64 (1 + es.length))) from Below.setCell (Below.drew (show Below w3.heap.size w3 w4 from U4.out)) hgB _)
    have SS := Lib.hid (show EvSl ((w4.drew).setCell ⟨g, k * 12 + 2 + q, none⟩ (.int .i64 (1 + es.length))) (some ⟨g, 0, none⟩) es.length cap4 (es.set k { Ev.nth es k with c := (Ev.nth es k).c.set q (1 + es.length) }) by
      obtain ⟨A', c', z, h'⟩ := Sl.of_own O5.out
      injection z with q1 _ q3
      subst q1 q3
      exact h')
    clear O4 O5 U4 hv hv0 hr
    generalize es.set k { Ev.nth es k with c := (Ev.nth es k).c.set q (1 + es.length) } = S at *
    go_upto_region 12 with (fail)
    refine wp_region_still_tail 15 (by kernel_rfl) (by kernel_rfl) ?_
    simp only [List.take_succ_cons, List.take_zero, List.drop_succ_cons, List.drop_zero]
    change wpStill _ _ w4.drew _ _ _
    repeat still_step
    refine wpStill_nil ?_
    change wpList _ _ _ _ _ w4.drew
    go_upto_region 15 with (fail)
    refine wp_named (fun W hW => ?_)
    rw [show ((w4.drew).setCell ⟨g, k * 12 + 2 + q, none⟩ (.int .i64 (1 + es.length))) = W from hW.symm] at SS U5
    clear hW
    obtain ⟨B6, hB6⟩ : ∃ B6, B6 = W.heap.size := ⟨_, rfl⟩
    have HB6 := Lib.hid hB6
    clear hB6
    have lD : (es.take k ++ es.drop (k + 1)).length = k + (es.length - (k + 1)) := by simp; omega
    go_cut [11] (fun v11 wx => ∃ A11 cap11, v11 = .slice A11 (k + (es.length - (k + 1))) cap11 ∧ Hid (EvSl wx A11 (k + (es.length - (k + 1))) cap11 (es.take k ++ es.drop (k + 1))) ∧ Hid (Lex.Up W wx))
    case first =>
      by_cases hcap : cap3 = k + 1
      · subst hcap
        have hmcA : (k : Int) ≤ (k : Int) + 1 := by omega
        have hmcB : (es.length : Int) ≤ (k : Int) + 1 := by omega
        refine Lex.wp_region_lex_tail 9 (by kernel_rfl) (by kernel_rfl) (by kernel_rfl) (by rfl) ?_
        simp only [List.take_succ_cons, List.take_zero, List.drop_succ_cons, List.drop_zero]
        refine Lex.lex_make (v := fun w => .slice (some ⟨w.heap.size, 0, none⟩) 0 0) (f := fun w => w.alloc (.cells #[] 51)) 76 (emptyFact 51 B6) (by rfl) (by rfl) (by rfl) (emptyFact_up _ _) (fun w' hC => ?_) (fun w' hC => empty_made w' _ _ (by rw [HB6.out]; exact hC.size)) (by rfl) ?_
        · have := hC; clear this; go_simp
        repeat (first | (refine Lex.lex_skip (by rfl) (by rfl) (by rfl) ?_; simp only [Act.put, List.setIfInBounds_toArray, List.set_cons_zero, List.set_cons_succ]) | (refine Lex.lex_pure (c := ?_) (by rfl) (by rfl) (fun w' hC => ?_) (by rfl) ?_; rotate_left 1; (go_simp; rfl); simp only [Act.put, List.setIfInBounds_toArray, List.set_cons_zero, List.set_cons_succ]))
        refine ESe.lex_copy 80 (.tmp 79) (by rfl) (by rfl) (fun u => by rfl) (by rfl) (some ⟨b, off, none⟩) k (k + 1) (evc (es.take k)) (fun u => ⟨by rfl, by rfl⟩) (fun w' hC => (SE.out.up (U5.out.trans hC)).take (Nat.le_of_lt hk5)) (by omega) (by simp only [maxLen]; omega) (fun w' hC => by rw [HB6.out]; exact hC.size) (by rfl) ?_
        repeat (first | (refine Lex.lex_skip (by rfl) (by rfl) (by rfl) ?_; simp only [Act.put, List.setIfInBounds_toArray, List.set_cons_zero, List.set_cons_succ]) | (refine Lex.lex_pure (c := ?_) (by rfl) (by rfl) (fun w' hC => ?_) (by rfl) ?_; rotate_left 1; (go_simp; rfl); simp only [Act.put, List.setIfInBounds_toArray, List.set_cons_zero, List.set_cons_succ]))
        refine Lex.lex_nil (fun w7 hC => ?_)
        simp only [Lex.fill]
        rintro v80 h80 v76 ⟨b76, rfl, _⟩
        have O7 := Lib.hid (show w7.ownsRow B6 51 12 v80 k (evc (es.take k)) from h80)
        obtain ⟨A80, cap80, rfl, _⟩ := Sl.of_own h80
        have V7 := Lib.hid hC
        have Z7 : B6 ≤ w7.heap.size := by rw [HB6.out]; exact hC.size
        have OB := Lib.hid (own_base O7.out)
        have SD := Lib.hid (show Sl w7 12 (some ⟨b, off, none⟩) 0 0 (evc (es.drop (k + 1))) by
          rw [List.drop_of_length_le (by omega)]
          exact Sl.empty w7 12 _ 0 (by omega))
        clear hC h80
        change wpList _ _ _ _ _ w7
        go_wp2_with (at_builtin; refine ESe.wpList_append (by rfl) _ _ rfl B6 _ k (evc (es.take k)) rfl O7.out (some ⟨b, off, none⟩) 0 0 (evc (es.drop (k + 1))) rfl SD.out (evc_one' _) (by omega) (by simp only [maxLen]; omega) Z7 ?_)
        intro v11 w8 hown hg
        obtain ⟨A11, cap11, rfl, S11⟩ := Sl.of_own hown
        have V8 := Lib.hid (show Lex.Up W w8 by have := Below.grown (B := B6) (by rw [HB6.out]; exact V7.out) hg Z7 OB.out; rw [HB6.out] at this; exact this)
        have SW := Lib.hid (show EvSl w8 A11 (k + 0) cap11 (es.take k ++ es.drop (k + 1)) by unfold EvSl; rw [evc_append]; exact S11)
        clear hown hg V7 Z7 OB SD O7 S11
        go_wp2_with fail
        go_meet
        have e0 : es.length - (k + 1) = 0 := by omega
        exact ⟨A11, cap11, by rw [e0]; rfl, by rw [e0]; exact SW, V8⟩
      · have hcap' : ¬ k + 1 = cap3 := fun q => hcap q.symm
        refine Lex.wp_region_lex_tail 9 (by kernel_rfl) (by kernel_rfl) (by kernel_rfl) (by rfl) ?_
        simp only [List.take_succ_cons, List.take_zero, List.drop_succ_cons, List.drop_zero]
        refine Lex.lex_make (v := fun w => .slice (some ⟨w.heap.size, 0, none⟩) 0 0) (f := fun w => w.alloc (.cells #[] 51)) 76 (emptyFact 51 B6) (by rfl) (by rfl) (by rfl) (emptyFact_up _ _) (fun w' hC => ?_) (fun w' hC => empty_made w' _ _ (by rw [HB6.out]; exact hC.size)) (by rfl) ?_
        · have := hC; clear this; go_simp
        repeat (first | (refine Lex.lex_skip (by rfl) (by rfl) (by rfl) ?_; simp only [Act.put, List.setIfInBounds_toArray, List.set_cons_zero, List.set_cons_succ]) | (refine Lex.lex_pure (c := ?_) (by rfl) (by rfl) (fun w' hC => ?_) (by rfl) ?_; rotate_left 1; (go_simp; rfl); simp only [Act.put, List.setIfInBounds_toArray, List.set_cons_zero, List.set_cons_succ]))
        refine ESe.lex_copy 80 (.tmp 79) (by rfl) (by rfl) (fun u => by rfl) (by rfl) (some ⟨b, off, none⟩) k cap3 (evc (es.take k)) (fun u => ⟨by rfl, by rfl⟩) (fun w' hC => (SE.out.up (U5.out.trans hC)).take (Nat.le_of_lt hk5)) (by omega) (by simp only [maxLen]; omega) (fun w' hC => by rw [HB6.out]; exact hC.size) (by rfl) ?_
        repeat (first | (refine Lex.lex_skip (by rfl) (by rfl) (by rfl) ?_; simp only [Act.put, List.setIfInBounds_toArray, List.set_cons_zero, List.set_cons_succ]) | (refine Lex.lex_pure (c := ?_) (by rfl) (by rfl) (fun w' hC => ?_) (by rfl) ?_; rotate_left 1; (go_simp; rfl); simp only [Act.put, List.setIfInBounds_toArray, List.set_cons_zero, List.set_cons_succ]))
        refine Lex.lex_nil (fun w7 hC => ?_)
        simp only [Lex.fill]
        rintro v80 h80 v76 ⟨b76, rfl, _⟩
        have O7 := Lib.hid (show w7.ownsRow B6 51 12 v80 k (evc (es.take k)) from h80)
        obtain ⟨A80, cap80, rfl, _⟩ := Sl.of_own h80
        have V7 := Lib.hid hC
        have Z7 : B6 ≤ w7.heap.size := by rw [HB6.out]; exact hC.size
        have OB := Lib.hid (own_base O7.out)
        have SD := Lib.hid (show Sl w7 12 (some ⟨b, off + (k + 1) * 12, none⟩) (es.length - (k + 1)) (cap3 - (k + 1)) (evc (es.drop (k + 1))) by
          have := Sl.drop (SE.out.up (U5.out.trans hC)) (u := k + 1) (by omega)
          rwa [evc_drop] at this)
        clear hC h80
        change wpList _ _ _ _ _ w7
        go_wp2_with (at_builtin; refine ESe.wpList_append (by rfl) _ _ rfl B6 _ k (evc (es.take k)) rfl O7.out (some ⟨b, off + (k + 1) * 12, none⟩) (es.length - (k + 1)) (cap3 - (k + 1)) (evc (es.drop (k + 1))) rfl SD.out (evc_one' _) (by omega) (by simp only [maxLen]; omega) Z7 ?_)
        intro v11 w8 hown hg
        obtain ⟨A11, cap11, rfl, S11⟩ := Sl.of_own hown
        have V8 := Lib.hid (show Lex.Up W w8 by have := Below.grown (B := B6) (by rw [HB6.out]; exact V7.out) hg Z7 OB.out; rw [HB6.out] at this; exact this)
        have SW := Lib.hid (show EvSl w8 A11 (k + (es.length - (k + 1))) cap11 (es.take k ++ es.drop (k + 1)) by unfold EvSl; rw [evc_append]; exact S11)
        clear hown hg V7 Z7 OB SD O7 S11
        go_wp2_with fail
        go_meet
        exact ⟨A11, cap11, rfl, SW, V8⟩
    case rest =>
    obtain ⟨A11, cap11, rfl, SW, V8⟩ := hcut
    have SS8 := Lib.hid (SS.out.up V8.out)
    have U8 := Lib.hid (U5.out.trans V8.out)
    clear SS U5 V8
    have WO2 := WO
    generalize es.take k ++ es.drop (k + 1) = D at *
    generalize hgk : Ev.nth es k = c at *
    go_wp2
    go_loopw [12, 13] (fun v12 v13 wr => NdRel es c wc v12 v13 wr) (fun _ v _ => es.length - (intOf v).toNat)
    case atStart => exact ⟨0, by omega, rfl, rfl, Lib.hid (Lex.Up.refl _)⟩
    case round =>
      obtain ⟨i, hi, rfl, rfl, UI⟩ := hrel
      by_cases hi5 : i < es.length
      · have hi5' : (i : Int) < es.length := by omega
        have EI := Lib.hid (fun w' (hu : Lex.Up w3 w') => ev_at (SE.out.up hu) hi5)
        have NI := Lib.hid (NS.out i hi5)
        generalize hga : Ev.nth es i = a at *
        have B1 := Lib.hid (fun w' => below_any c a w')
        unfold Ev.val at B1
        generalize Ck.has a.c c.r c.n = q at *
        generalize Pst.need es c i = p at *
        clear hga NS WO WO2 SS8 SW
        go_upto_region 20 with (fail)
        cases p
        · refine Lex.wp_region_lex (by kernel_rfl) (by kernel_rfl) (by rfl) ?_
          repeat (first | (refine Lex.lex_skip (by rfl) (by rfl) (by rfl) ?_; simp only [Act.put, List.setIfInBounds_toArray, List.set_cons_zero, List.set_cons_succ]) | (refine Lex.lex_pure (c := ?_) (by rfl) (by rfl) (fun w' hC => ?_) (by rfl) ?_; rotate_left 1; (obtain ⟨e0, e1, e2, e3, e4, e5, e6, e7, e8, e9, e10, e11⟩ := EI.out w' (U8.out.trans (UI.out.trans hC)); obtain ⟨f0, f1, f2, f3, f4, f5, f6, f7, f8, f9, f10, f11⟩ := EK.out w' (U8.out.trans (UI.out.trans hC)); go_simp; rfl); simp only [Act.put, List.setIfInBounds_toArray, List.set_cons_zero, List.set_cons_succ]))
          refine Lex.lex_callv (.bool q) (by rfl) (by rfl) (fun w' => by go_simp) (fun w' hC => B1.out w') (by rfl) ?_
          simp only [Act.put, List.setIfInBounds_toArray, List.set_cons_zero, List.set_cons_succ]
          repeat (first | (refine Lex.lex_skip (by rfl) (by rfl) (by rfl) ?_; simp only [Act.put, List.setIfInBounds_toArray, List.set_cons_zero, List.set_cons_succ]) | (refine Lex.lex_pure (c := ?_) (by rfl) (by rfl) (fun w' hC => ?_) (by rfl) ?_; rotate_left 1; (go_simp; rfl); simp only [Act.put, List.setIfInBounds_toArray, List.set_cons_zero, List.set_cons_succ]))
          refine Lex.lex_nil (fun w9 hC => ?_)
          simp only [Lex.fill]
          have U9 := Lib.hid (UI.out.trans hC)
          clear hC
          go_wp2
          go_roundw
          case rel => exact ⟨i + 1, by omega, by rw [NI.out]; simp, by go_num, U9⟩
          case measure => simp [intOf]; omega
        · refine Lex.wp_region_lex (by kernel_rfl) (by kernel_rfl) (by rfl) ?_
          repeat (first | (refine Lex.lex_skip (by rfl) (by rfl) (by rfl) ?_; simp only [Act.put, List.setIfInBounds_toArray, List.set_cons_zero, List.set_cons_succ]) | (refine Lex.lex_pure (c := ?_) (by rfl) (by rfl) (fun w' hC => ?_) (by rfl) ?_; rotate_left 1; (go_simp; rfl); simp only [Act.put, List.setIfInBounds_toArray, List.set_cons_zero, List.set_cons_succ]))
          refine Lex.lex_nil (fun w9 hC => ?_)
          simp only [Lex.fill]
          have U9 := Lib.hid (UI.out.trans hC)
          clear hC
          go_wp2
          go_roundw
          case rel => exact ⟨i + 1, by omega, by rw [NI.out]; simp, by go_num, U9⟩
          case measure => simp [intOf]; omega
      · obtain rfl : i = es.length := by omega
        have WV := Lib.hid WO2.out
        generalize Pst.need es c es.length = p at *
        have C1 := Lib.hid (fun w' (hu : Lex.Up wr w') => right_val S (some ⟨g, 0, none⟩) (es.length) cap4 w' (SS8.out.up (UI.out.trans hu)) false RS.out)
        have C2 := Lib.hid (fun w' (hu : Lex.Up wr w') => right_val D A11 (k + (es.length - (k + 1))) cap11 w' (SW.out.up (UI.out.trans hu)) (!p) WV.out)
        clear WO WO2 NS SS8 SW WV EK
        go_wp2_with fail
        refine (C1.out _ (Lex.Up.refl _)).mono ?_
        rintro x w9 ⟨rfl, u1⟩
        have V1 := Lib.hid u1
        clear u1
        go_wp2_with fail
        refine (C2.out _ V1.out).mono ?_
        rintro x w10 ⟨rfl, u1⟩
        have V2 := Lib.hid (V1.out.trans u1)
        clear u1 C1 C2
        cases p
        · go_wp2
          go_ret
          exact ⟨rfl, U3.out.trans (U8.out.trans (UI.out.trans V2.out))⟩
        · go_wp2
          go_ret
          exact ⟨rfl, U3.out.trans (U8.out.trans (UI.out.trans V2.out))⟩
  · have RS := Lib.hid (right_fails (Pst.spoilt_num R.out hk5 rfl))
    have hv : (evc es)[k * 12 + 1]? = some (.int .i64 (Ev.nth es k).n) := evc_nth es k hk5 1 _ (by omega) rfl
    obtain ⟨c7, f7⟩ := own_at O4.out hv
    have O5 := Lib.hid (own_set O4.out (j := k * 12 + 1) (.int .i64 ((Ev.nth es k).n + 1)))
    rw [evc_set es k { Ev.nth es k with n := (Ev.nth es k).n + 1 } 1 _ hk5 (by omega) rfl] at O5
    have U5 := Lib.hid (show Lex.Up w3 (w4.setCell ⟨g, k * 12 + 1, none⟩ (.int .i64 ((Ev.nth es k).n + 1))) from U4.out.setCell hgB _)
    have SS := Lib.hid (show EvSl (w4.setCell ⟨g, k * 12 + 1, none⟩ (.int .i64 ((Ev.nth es k).n + 1))) (some ⟨g, 0, none⟩) es.length cap4 (es.set k { Ev.nth es k with n := (Ev.nth es k).n + 1 }) by
      obtain ⟨A', c', q, h'⟩ := Sl.of_own O5.out
      injection q with q1 _ q3
      subst q1 q3
      exact h')
    clear O4 O5 U4 hv
    generalize es.set k { Ev.nth es k with n := (Ev.nth es k).n + 1 } = S at *
    go_upto_region 15 with (fail)
    refine wp_named (fun W hW => ?_)
    rw [show (w4.setCell ⟨g, k * 12 + 1, none⟩ (.int .i64 ((Ev.nth es k).n + 1))) = W from hW.symm] at SS U5
    clear hW
    obtain ⟨B6, hB6⟩ : ∃ B6, B6 = W.heap.size := ⟨_, rfl⟩
    have HB6 := Lib.hid hB6
    clear hB6
    have lD : (es.take k ++ es.drop (k + 1)).length = k + (es.length - (k + 1)) := by simp; omega
    go_cut [11] (fun v11 wx => ∃ A11 cap11, v11 = .slice A11 (k + (es.length - (k + 1))) cap11 ∧ Hid (EvSl wx A11 (k + (es.length - (k + 1))) cap11 (es.take k ++ es.drop (k + 1))) ∧ Hid (Lex.Up W wx))
    case first =>
      by_cases hcap : cap3 = k + 1
      · subst hcap
        have hmcA : (k : Int) ≤ (k : Int) + 1 := by omega
        have hmcB : (es.length : Int) ≤ (k : Int) + 1 := by omega
        refine Lex.wp_region_lex_tail 9 (by kernel_rfl) (by kernel_rfl) (by kernel_rfl) (by rfl) ?_
        simp only [List.take_succ_cons, List.take_zero, List.drop_succ_cons, List.drop_zero]
        refine Lex.lex_make (v := fun w => .slice (some ⟨w.heap.size, 0, none⟩) 0 0) (f := fun w => w.alloc (.cells #[] 51)) 76 (emptyFact 51 B6) (by rfl) (by rfl) (by rfl) (emptyFact_up _ _) (fun w' hC => ?_) (fun w' hC => empty_made w' _ _ (by rw [HB6.out]; exact hC.size)) (by rfl) ?_
        · have := hC; clear this; go_simp
        repeat (first | (refine Lex.lex_skip (by rfl) (by rfl) (by rfl) ?_; simp only [Act.put, List.setIfInBounds_toArray, List.set_cons_zero, List.set_cons_succ]) | (refine Lex.lex_pure (c := ?_) (by rfl) (by rfl) (fun w' hC => ?_) (by rfl) ?_; rotate_left 1; (go_simp; rfl); simp only [Act.put, List.setIfInBounds_toArray, List.set_cons_zero, List.set_cons_succ]))
        refine ESe.lex_copy 80 (.tmp 79) (by rfl) (by rfl) (fun u => by rfl) (by rfl) (some ⟨b, off, none⟩) k (k + 1) (evc (es.take k)) (fun u => ⟨by rfl, by rfl⟩) (fun w' hC => (SE.out.up (U5.out.trans hC)).take (Nat.le_of_lt hk5)) (by omega) (by simp only [maxLen]; omega) (fun w' hC => by rw [HB6.out]; exact hC.size) (by rfl) ?_
        repeat (first | (refine Lex.lex_skip (by rfl) (by rfl) (by rfl) ?_; simp only [Act.put, List.setIfInBounds_toArray, List.set_cons_zero, List.set_cons_succ]) | (refine Lex.lex_pure (c := ?_) (by rfl) (by rfl) (fun w' hC => ?_) (by rfl) ?_; rotate_left 1; (go_simp; rfl); simp only [Act.put, List.setIfInBounds_toArray, List.set_cons_zero, List.set_cons_succ]))
        refine Lex.lex_nil (fun w7 hC => ?_)
        simp only [Lex.fill]
        rintro v80 h80 v76 ⟨b76, rfl, _⟩
        have O7 := Lib.hid (show w7.ownsRow B6 51 12 v80 k (evc (es.take k)) from h80)
        obtain ⟨A80, cap80, rfl, _⟩ := Sl.of_own h80
        have V7 := Lib.hid hC
        have Z7 : B6 ≤ w7.heap.size := by rw [HB6.out]; exact hC.size
        have OB := Lib.hid (own_base O7.out)
        have SD := Lib.hid (show Sl w7 12 (some ⟨b, off, none⟩) 0 0 (evc (es.drop (k + 1))) by
          rw [List.drop_of_length_le (by omega)]
          exact Sl.empty w7 12 _ 0 (by omega))
        clear hC h80
        change wpList _ _ _ _ _ w7
        go_wp2_with (at_builtin; refine ESe.wpList_append (by rfl) _ _ rfl B6 _ k (evc (es.take k)) rfl O7.out (some ⟨b, off, none⟩) 0 0 (evc (es.drop (k + 1))) rfl SD.out (evc_one' _) (by omega) (by simp only [maxLen]; omega) Z7 ?_)
        intro v11 w8 hown hg
        obtain ⟨A11, cap11, rfl, S11⟩ := Sl.of_own hown
        have V8 := Lib.hid (show Lex.Up W w8 by have := Below.grown (B := B6) (by rw [HB6.out]; exact V7.out) hg Z7 OB.out; rw [HB6.out] at this; exact this)
        have SW := Lib.hid (show EvSl w8 A11 (k + 0) cap11 (es.take k ++ es.drop (k + 1)) by unfold EvSl; rw [evc_append]; exact S11)
        clear hown hg V7 Z7 OB SD O7 S11
        go_wp2_with fail
        go_meet
        have e0 : es.length - (k + 1) = 0 := by omega
        exact ⟨A11, cap11, by rw [e0]; rfl, by rw [e0]; exact SW, V8⟩
      · have hcap' : ¬ k + 1 = cap3 := fun q => hcap q.symm
        refine Lex.wp_region_lex_tail 9 (by kernel_rfl) (by kernel_rfl) (by kernel_rfl) (by rfl) ?_
        simp only [List.take_succ_cons, List.take_zero, List.drop_succ_cons, List.drop_zero]
        refine Lex.lex_make (v := fun w => .slice (some ⟨w.heap.size, 0, none⟩) 0 0) (f := fun w => w.alloc (.cells #[] 51)) 76 (emptyFact 51 B6) (by rfl) (by rfl) (by rfl) (emptyFact_up _ _) (fun w' hC => ?_) (fun w' hC => empty_made w' _ _ (by rw [HB6.out]; exact hC.size)) (by rfl) ?_
        · have := hC; clear this; go_simp
        repeat (first | (refine Lex.lex_skip (by rfl) (by rfl) (by rfl) ?_; simp only [Act.put, List.setIfInBounds_toArray, List.set_cons_zero, List.set_cons_succ]) | (refine Lex.lex_pure (c := ?_) (by rfl) (by rfl) (fun w' hC => ?_) (by rfl) ?_; rotate_left 1; (go_simp; rfl); simp only [Act.put, List.setIfInBounds_toArray, List.set_cons_zero, List.set_cons_succ]))
        refine ESe.lex_copy 80 (.tmp 79) (by rfl) (by rfl) (fun u => by rfl) (by rfl) (some ⟨b, off, none⟩) k cap3 (evc (es.take k)) (fun u => ⟨by rfl, by rfl⟩) (fun w' hC => (SE.out.up (U5.out.trans hC)).take (Nat.le_of_lt hk5)) (by omega) (by simp only [maxLen]; omega) (fun w' hC => by rw [HB6.out]; exact hC.size) (by rfl) ?_
        repeat (first | (refine Lex.lex_skip (by rfl) (by rfl) (by rfl) ?_; simp only [Act.put, List.setIfInBounds_toArray, List.set_cons_zero, List.set_cons_succ]) | (refine Lex.lex_pure (c := ?_) (by rfl) (by rfl) (fun w' hC => ?_) (by rfl) ?_; rotate_left 1; (go_simp; rfl); simp only [Act.put, List.setIfInBounds_toArray, List.set_cons_zero, List.set_cons_succ]))
        refine Lex.lex_nil (fun w7 hC => ?_)
        simp only [Lex.fill]
        rintro v80 h80 v76 ⟨b76, rfl, _⟩
        have O7 := Lib.hid (show w7.ownsRow B6 51 12 v80 k (evc (es.take k)) from h80)
        obtain ⟨A80, cap80, rfl, _⟩ := Sl.of_own h80
        have V7 := Lib.hid hC
        have Z7 : B6 ≤ w7.heap.size := by rw [HB6.out]; exact hC.size
        have OB := Lib.hid (own_base O7.out)
        have SD := Lib.hid (show Sl w7 12 (some ⟨b, off + (k + 1) * 12, none⟩) (es.length - (k + 1)) (cap3 - (k + 1)) (evc (es.drop (k + 1))) by
          have := Sl.drop (SE.out.up (U5.out.trans hC)) (u := k + 1) (by omega)
          rwa [evc_drop] at this)
        clear hC h80
        change wpList _ _ _ _ _ w7
        go_wp2_with (at_builtin; refine ESe.wpList_append (by rfl) _ _ rfl B6 _ k (evc (es.take k)) rfl O7.out (some ⟨b, off + (k + 1) * 12, none⟩) (es.length - (k + 1)) (cap3 - (k + 1)) (evc (es.drop (k + 1))) rfl SD.out (evc_one' _) (by omega) (by simp only [maxLen]; omega) Z7 ?_)
        intro v11 w8 hown hg
        obtain ⟨A11, cap11, rfl, S11⟩ := Sl.of_own hown
        have V8 := Lib.hid (show Lex.Up W w8 by have := Below.grown (B := B6) (by rw [HB6.out]; exact V7.out) hg Z7 OB.out; rw [HB6.out] at this; exact this)
        have SW := Lib.hid (show EvSl w8 A11 (k + (es.length - (k + 1))) cap11 (es.take k ++ es.drop (k + 1)) by unfold EvSl; rw [evc_append]; exact S11)
        clear hown hg V7 Z7 OB SD O7 S11
        go_wp2_with fail
        go_meet
        exact ⟨A11, cap11, rfl, SW, V8⟩
    case rest =>
    obtain ⟨A11, cap11, rfl, SW, V8⟩ := hcut
    have SS8 := Lib.hid (SS.out.up V8.out)
    have U8 := Lib.hid (U5.out.trans V8.out)
    clear SS U5 V8
    have WO2 := WO
    generalize es.take k ++ es.drop (k + 1) = D at *
    generalize hgk : Ev.nth es k = c at *
    go_wp2
    go_loopw [12, 13] (fun v12 v13 wr => NdRel es c wc v12 v13 wr) (fun _ v _ => es.length - (intOf v).toNat)
    case atStart => exact ⟨0, by omega, rfl, rfl, Lib.hid (Lex.Up.refl _)⟩
    case round =>
      obtain ⟨i, hi, rfl, rfl, UI⟩ := hrel
      by_cases hi5 : i < es.length
      · have hi5' : (i : Int) < es.length := by omega
        have EI := Lib.hid (fun w' (hu : Lex.Up w3 w') => ev_at (SE.out.up hu) hi5)
        have NI := Lib.hid (NS.out i hi5)
        generalize hga : Ev.nth es i = a at *
        have B1 := Lib.hid (fun w' => below_any c a w')
        unfold Ev.val at B1
        generalize Ck.has a.c c.r c.n = q at *
        generalize Pst.need es c i = p at *
        clear hga NS WO WO2 SS8 SW
        go_upto_region 20 with (fail)
        cases p
        · refine Lex.wp_region_lex (by kernel_rfl) (by kernel_rfl) (by rfl) ?_
          repeat (first | (refine Lex.lex_skip (by rfl) (by rfl) (by rfl) ?_; simp only [Act.put, List.setIfInBounds_toArray, List.set_cons_zero, List.set_cons_succ]) | (refine Lex.lex_pure (c := ?_) (by rfl) (by rfl) (fun w' hC => ?_) (by rfl) ?_; rotate_left 1; (obtain ⟨e0, e1, e2, e3, e4, e5, e6, e7, e8, e9, e10, e11⟩ := EI.out w' (U8.out.trans (UI.out.trans hC)); obtain ⟨f0, f1, f2, f3, f4, f5, f6, f7, f8, f9, f10, f11⟩ := EK.out w' (U8.out.trans (UI.out.trans hC)); go_simp; rfl); simp only [Act.put, List.setIfInBounds_toArray, List.set_cons_zero, List.set_cons_succ]))
          refine Lex.lex_callv (.bool q) (by rfl) (by rfl) (fun w' => by go_simp) (fun w' hC => B1.out w') (by rfl) ?_
          simp only [Act.put, List.setIfInBounds_toArray, List.set_cons_zero, List.set_cons_succ]
          repeat (first | (refine Lex.lex_skip (by rfl) (by rfl) (by rfl) ?_; simp only [Act.put, List.setIfInBounds_toArray, List.set_cons_zero, List.set_cons_succ]) | (refine Lex.lex_pure (c := ?_) (by rfl) (by rfl) (fun w' hC => ?_) (by rfl) ?_; rotate_left 1; (go_simp; rfl); simp only [Act.put, List.setIfInBounds_toArray, List.set_cons_zero, List.set_cons_succ]))
          refine Lex.lex_nil (fun w9 hC => ?_)
          simp only [Lex.fill]
          have U9 := Lib.hid (UI.out.trans hC)
          clear hC
          go_wp2
          go_roundw
          case rel => exact ⟨i + 1, by omega, by rw [NI.out]; simp, by go_num, U9⟩
          case measure => simp [intOf]; omega
        · refine Lex.wp_region_lex (by kernel_rfl) (by kernel_rfl) (by rfl) ?_
          repeat (first | (refine Lex.lex_skip (by rfl) (by rfl) (by rfl) ?_; simp only [Act.put, List.setIfInBounds_toArray, List.set_cons_zero, List.set_cons_succ]) | (refine Lex.lex_pure (c := ?_) (by rfl) (by rfl) (fun w' hC => ?_) (by rfl) ?_; rotate_left 1; (go_simp; rfl); simp only [Act.put, List.setIfInBounds_toArray, List.set_cons_zero, List.set_cons_succ]))
          refine Lex.lex_nil (fun w9 hC => ?_)
          simp only [Lex.fill]
          have U9 := Lib.hid (UI.out.trans hC)
          clear hC
          go_wp2
          go_roundw
          case rel => exact ⟨i + 1, by omega, by rw [NI.out]; simp, by go_num, U9⟩
          case measure => simp [intOf]; omega
      · obtain rfl : i = es.length := by omega
        have WV := Lib.hid WO2.out
        generalize Pst.need es c es.length = p at *
        have C1 := Lib.hid (fun w' (hu : Lex.Up wr w') => right_val S (some ⟨g, 0, none⟩) (es.length) cap4 w' (SS8.out.up (UI.out.trans hu)) false RS.out)
        have C2 := Lib.hid (fun w' (hu : Lex.Up wr w') => right_val D A11 (k + (es.length - (k + 1))) cap11 w' (SW.out.up (UI.out.trans hu)) (!p) WV.out)
        clear WO WO2 NS SS8 SW WV EK
        go_wp2_with fail
        refine (C1.out _ (Lex.Up.refl _)).mono ?_
        rintro x w9 ⟨rfl, u1⟩
        have V1 := Lib.hid u1
        clear u1
        go_wp2_with fail
        refine (C2.out _ V1.out).mono ?_
        rintro x w10 ⟨rfl, u1⟩
        have V2 := Lib.hid (V1.out.trans u1)
        clear u1 C1 C2
        cases p
        · go_wp2
          go_ret
          exact ⟨rfl, U3.out.trans (U8.out.trans (UI.out.trans V2.out))⟩
        · go_wp2
          go_ret
          exact ⟨rfl, U3.out.trans (U8.out.trans (UI.out.trans V2.out))⟩
  · have RS := Lib.hid (right_fails (Pst.spoilt_twice (Pst.nth_mem hk5)))
    obtain ⟨e0, e1, e2, e3, e4, e5, e6, e7, e8, e9, e10, e11⟩ := EK.out w4 U4.out
    have ltb := EvSl.blk8 (SE.out.up U4.out) hpos
    have SX := Lib.hid (show Sl (w4.alloc (.cells (Ev.nth es k).cells 51)) 12 (some ⟨w4.heap.size, 0, none⟩) 1 1 (evc [Ev.nth es k]) from evFact_sl (Blk.new w4 (Ev.nth es k).cells _))
    have O6 := Lib.hid (O4.out.alloc (.cells (Ev.nth es k).cells 51))
    have U6 := Lib.hid (U4.out.alloc U4.out.size (.cells (Ev.nth es k).cells 51))
    have OB := Lib.hid (own_base O4.out)
    have Z6 : w3.heap.size ≤ (w4.alloc (.cells (Ev.nth es k).cells 51)).heap.size := U6.out.size
    go_wp2_with (at_builtin; refine ESe.wpList_append (by rfl) _ _ rfl w3.heap.size _ es.length (evc es) rfl O6.out (some ⟨w4.heap.size, 0, none⟩) 1 1 (evc [Ev.nth es k]) rfl SX.out (evc_one' _) (by omega) (by simp only [maxLen]; omega) Z6 ?_)
    intro v5 w5 hown hg
    have U5 := Lib.hid (show Lex.Up w3 w5 from Below.grown U6.out hg Z6 OB.out)
    obtain ⟨A5, cap5, rfl, S5⟩ := Sl.of_own hown
    have SS := Lib.hid (show EvSl w5 A5 (es.length + 1) cap5 (es ++ [Ev.nth es k]) by unfold EvSl; rw [evc_append]; exact S5)
    clear O4 U4 e0 e1 e2 e3 e4 e5 e6 e7 e8 e9 e10 e11 ltb SX O6 U6 OB Z6 hown hg S5
    generalize es ++ [Ev.nth es k] = S at *
    go_upto_region 15 with (fail)
    refine wp_named (fun W hW => ?_)
    rw [show w5 = W from hW.symm] at SS U5
    clear hW
    obtain ⟨B6, hB6⟩ : ∃ B6, B6 = W.heap.size := ⟨_, rfl⟩
    have HB6 := Lib.hid hB6
    clear hB6
    have lD : (es.take k ++ es.drop (k + 1)).length = k + (es.length - (k + 1)) := by simp; omega
    go_cut [11] (fun v11 wx => ∃ A11 cap11, v11 = .slice A11 (k + (es.length - (k + 1))) cap11 ∧ Hid (EvSl wx A11 (k + (es.length - (k + 1))) cap11 (es.take k ++ es.drop (k + 1))) ∧ Hid (Lex.Up W wx))
    case first =>
      by_cases hcap : cap3 = k + 1
      · subst hcap
        have hmcA : (k : Int) ≤ (k : Int) + 1 := by omega
        have hmcB : (es.length : Int) ≤ (k : Int) + 1 := by omega
        refine Lex.wp_region_lex_tail 9 (by kernel_rfl) (by kernel_rfl) (by kernel_rfl) (by rfl) ?_
        simp only [List.take_succ_cons, List.take_zero, List.drop_succ_cons, List.drop_zero]
        refine Lex.lex_make (v := fun w => .slice (some ⟨w.heap.size, 0, none⟩) 0 0) (f := fun w => w.alloc (.cells #[] 51)) 76 (emptyFact 51 B6) (by rfl) (by rfl) (by rfl) (emptyFact_up _ _) (fun w' hC => ?_) (fun w' hC => empty_made w' _ _ (by rw [HB6.out]; exact hC.size)) (by rfl) ?_
        · have := hC; clear this; go_simp
        repeat (first | (refine Lex.lex_skip (by rfl) (by rfl) (by rfl) ?_; simp only [Act.put, List.setIfInBounds_toArray, List.set_cons_zero, List.set_cons_succ]) | (refine Lex.lex_pure (c := ?_) (by rfl) (by rfl) (fun w' hC => ?_) (by rfl) ?_; rotate_left 1; (go_simp; rfl); simp only [Act.put, List.setIfInBounds_toArray, List.set_cons_zero, List.set_cons_succ]))
        refine ESe.lex_copy 80 (.tmp 79) (by rfl) (by rfl) (fun u => by rfl) (by rfl) (some ⟨b, off, none⟩) k (k + 1) (evc (es.take k)) (fun u => ⟨by rfl, by rfl⟩) (fun w' hC => (SE.out.up (U5.out.trans hC)).take (Nat.le_of_lt hk5)) (by omega) (by simp only [maxLen]; omega) (fun w' hC => by rw [HB6.out]; exact hC.size) (by rfl) ?_
        repeat (first | (refine Lex.lex_skip (by rfl) (by rfl) (by rfl) ?_; simp only [Act.put, List.setIfInBounds_toArray, List.set_cons_zero, List.set_cons_succ]) | (refine Lex.lex_pure (c := ?_) (by rfl) (by rfl) (fun w' hC => ?_) (by rfl) ?_; rotate_left 1; (go_simp; rfl); simp only [Act.put, List.setIfInBounds_toArray, List.set_cons_zero, List.set_cons_succ]))
        refine Lex.lex_nil (fun w7 hC => ?_)
        simp only [Lex.fill]
        rintro v80 h80 v76 ⟨b76, rfl, _⟩
        have O7 := Lib.hid (show w7.ownsRow B6 51 12 v80 k (evc (es.take k)) from h80)
        obtain ⟨A80, cap80, rfl, _⟩ := Sl.of_own h80
        have V7 := Lib.hid hC
        have Z7 : B6 ≤ w7.heap.size := by rw [HB6.out]; exact hC.size
        have OB := Lib.hid (own_base O7.out)
        have SD := Lib.hid (show Sl w7 12 (some ⟨b, off, none⟩) 0 0 (evc (es.drop (k + 1))) by
          rw [List.drop_of_length_le (by omega)]
          exact Sl.empty w7 12 _ 0 (by omega))
        clear hC h80
        change wpList _ _ _ _ _ w7
        go_wp2_with (at_builtin; refine ESe.wpList_append (by rfl) _ _ rfl B6 _ k (evc (es.take k)) rfl O7.out (some ⟨b, off, none⟩) 0 0 (evc (es.drop (k + 1))) rfl SD.out (evc_one' _) (by omega) (by simp only [maxLen]; omega) Z7 ?_)
        intro v11 w8 hown hg
        obtain ⟨A11, cap11, rfl, S11⟩ := Sl.of_own hown
        have V8 := Lib.hid (show Lex.Up W w8 by have := Below.grown (B := B6) (by rw [HB6.out]; exact V7.out) hg Z7 OB.out; rw [HB6.out] at this; exact this)
        have SW := Lib.hid (show EvSl w8 A11 (k + 0) cap11 (es.take k ++ es.drop (k + 1)) by unfold EvSl; rw [evc_append]; exact S11)
        clear hown hg V7 Z7 OB SD O7 S11
        go_wp2_with fail
        go_meet
        have e0 : es.length - (k + 1) = 0 := by omega
        exact ⟨A11, cap11, by rw [e0]; rfl, by rw [e0]; exact SW, V8⟩
      · have hcap' : ¬ k + 1 = cap3 := fun q => hcap q.symm
        refine Lex.wp_region_lex_tail 9 (by kernel_rfl) (by kernel_rfl) (by kernel_rfl) (by rfl) ?_
        simp only [List.take_succ_cons, List.take_zero, List.drop_succ_cons, List.drop_zero]
        refine Lex.lex_make (v := fun w => .slice (some ⟨w.heap.size, 0, none⟩) 0 0) (f := fun w => w.alloc (.cells #[] 51)) 76 (emptyFact 51 B6) (by rfl) (by rfl) (by rfl) (emptyFact_up _ _) (fun w' hC => ?_) (fun w' hC => empty_made w' _ _ (by rw [HB6.out]; exact hC.size)) (by rfl) ?_
        · have := hC; clear this; go_simp
        repeat (first | (refine Lex.lex_skip (by rfl) (by rfl) (by rfl) ?_; simp only [Act.put, List.setIfInBounds_toArray, List.set_cons_zero, List.set_cons_succ]) | (refine Lex.lex_pure (c := ?_) (by rfl) (by rfl) (fun w' hC => ?_) (by rfl) ?_; rotate_left 1; (go_simp; rfl); simp only [Act.put, List.setIfInBounds_toArray, List.set_cons_zero, List.set_cons_succ]))
        refine ESe.lex_copy 80 (.tmp 79) (by rfl) (by rfl) (fun u => by rfl) (by rfl) (some ⟨b, off, none⟩) k cap3 (evc (es.take k)) (fun u => ⟨by rfl, by rfl⟩) (fun w' hC => (SE.out.up (U5.out.trans hC)).take (Nat.le_of_lt hk5)) (by omega) (by simp only [maxLen]; omega) (fun w' hC => by rw [HB6.out]; exact hC.size) (by rfl) ?_
        repeat (first | (refine Lex.lex_skip (by rfl) (by rfl) (by rfl) ?_; simp only [Act.put, List.setIfInBounds_toArray, List.set_cons_zero, List.set_cons_succ]) | (refine Lex.lex_pure (c := ?_) (by rfl) (by rfl) (fun w' hC => ?_) (by rfl) ?_; rotate_left 1; (go_simp; rfl); simp only [Act.put, List.setIfInBounds_toArray, List.set_cons_zero, List.set_cons_succ]))
        refine Lex.lex_nil (fun w7 hC => ?_)
        simp only [Lex.fill]
        rintro v80 h80 v76 ⟨b76, rfl, _⟩
        have O7 := Lib.hid (show w7.ownsRow B6 51 12 v80 k (evc (es.take k)) from h80)
        obtain ⟨A80, cap80, rfl, _⟩ := Sl.of_own h80
        have V7 := Lib.hid hC
        have Z7 : B6 ≤ w7.heap.size := by rw [HB6.out]; exact hC.size
        have OB := Lib.hid (own_base O7.out)
        have SD := Lib.hid (show Sl w7 12 (some ⟨b, off + (k + 1) * 12, none⟩) (es.length - (k + 1)) (cap3 - (k + 1)) (evc (es.drop (k + 1))) by
          have := Sl.drop (SE.out.up (U5.out.trans hC)) (u := k + 1) (by omega)
          rwa [evc_drop] at this)
        clear hC h80
        change wpList _ _ _ _ _ w7
        go_wp2_with (at_builtin; refine ESe.wpList_append (by rfl) _ _ rfl B6 _ k (evc (es.take k)) rfl O7.out (some ⟨b, off + (k + 1) * 12, none⟩) (es.length - (k + 1)) (cap3 - (k + 1)) (evc (es.drop (k + 1))) rfl SD.out (evc_one' _) (by omega) (by simp only [maxLen]; omega) Z7 ?_)
        intro v11 w8 hown hg
        obtain ⟨A11, cap11, rfl, S11⟩ := Sl.of_own hown
        have V8 := Lib.hid (show Lex.Up W w8 by have := Below.grown (B := B6) (by rw [HB6.out]; exact V7.out) hg Z7 OB.out; rw [HB6.out] at this; exact this)
        have SW := Lib.hid (show EvSl w8 A11 (k + (es.length - (k + 1))) cap11 (es.take k ++ es.drop (k + 1)) by unfold EvSl; rw [evc_append]; exact S11)
        clear hown hg V7 Z7 OB SD O7 S11
        go_wp2_with fail
        go_meet
        exact ⟨A11, cap11, rfl, SW, V8⟩
    case rest =>
    obtain ⟨A11, cap11, rfl, SW, V8⟩ := hcut
    have SS8 := Lib.hid (SS.out.up V8.out)
    have U8 := Lib.hid (U5.out.trans V8.out)
    clear SS U5 V8
    have WO2 := WO
    generalize es.take k ++ es.drop (k + 1) = D at *
    generalize hgk : Ev.nth es k = c at *
    go_wp2
    go_loopw [12, 13] (fun v12 v13 wr => NdRel es c wc v12 v13 wr) (fun _ v _ => es.length - (intOf v).toNat)
    case atStart => exact ⟨0, by omega, rfl, rfl, Lib.hid (Lex.Up.refl _)⟩
    case round =>
      obtain ⟨i, hi, rfl, rfl, UI⟩ := hrel
      by_cases hi5 : i < es.length
      · have hi5' : (i : Int) < es.length := by omega
        have EI := Lib.hid (fun w' (hu : Lex.Up w3 w') => ev_at (SE.out.up hu) hi5)
        have NI := Lib.hid (NS.out i hi5)
        generalize hga : Ev.nth es i = a at *
        have B1 := Lib.hid (fun w' => below_any c a w')
        unfold Ev.val at B1
        generalize Ck.has a.c c.r c.n = q at *
        generalize Pst.need es c i = p at *
        clear hga NS WO WO2 SS8 SW
        go_upto_region 20 with (fail)
        cases p
        · refine Lex.wp_region_lex (by kernel_rfl) (by kernel_rfl) (by rfl) ?_
          repeat (first | (refine Lex.lex_skip (by rfl) (by rfl) (by rfl) ?_; simp only [Act.put, List.setIfInBounds_toArray, List.set_cons_zero, List.set_cons_succ]) | (refine Lex.lex_pure (c := ?_) (by rfl) (by rfl) (fun w' hC => ?_) (by rfl) ?_; rotate_left 1; (obtain ⟨e0, e1, e2, e3, e4, e5, e6, e7, e8, e9, e10, e11⟩ := EI.out w' (U8.out.trans (UI.out.trans hC)); obtain ⟨f0, f1, f2, f3, f4, f5, f6, f7, f8, f9, f10, f11⟩ := EK.out w' (U8.out.trans (UI.out.trans hC)); go_simp; rfl); simp only [Act.put, List.setIfInBounds_toArray, List.set_cons_zero, List.set_cons_succ]))
          refine Lex.lex_callv (.bool q) (by rfl) (by rfl) (fun w' => by go_simp) (fun w' hC => B1.out w') (by rfl) ?_
          simp only [Act.put, List.setIfInBounds_toArray, List.set_cons_zero, List.set_cons_succ]
          repeat (first | (refine Lex.lex_skip (by rfl) (by rfl) (by rfl) ?_; simp only [Act.put, List.setIfInBounds_toArray, List.set_cons_zero, List.set_cons_succ]) | (refine Lex.lex_pure (c := ?_) (by rfl) (by rfl) (fun w' hC => ?_) (by rfl) ?_; rotate_left 1; (go_simp; rfl); simp only [Act.put, List.setIfInBounds_toArray, List.set_cons_zero, List.set_cons_succ]))
          refine Lex.lex_nil (fun w9 hC => ?_)
          simp only [Lex.fill]
          have U9 := Lib.hid (UI.out.trans hC)
          clear hC
          go_wp2
          go_roundw
          case rel => exact ⟨i + 1, by omega, by rw [NI.out]; simp, by go_num, U9⟩
          case measure => simp [intOf]; omega
        · refine Lex.wp_region_lex (by kernel_rfl) (by kernel_rfl) (by rfl) ?_
          repeat (first | (refine Lex.lex_skip (by rfl) (by rfl) (by rfl) ?_; simp only [Act.put, List.setIfInBounds_toArray, List.set_cons_zero, List.set_cons_succ]) | (refine Lex.lex_pure (c := ?_) (by rfl) (by rfl) (fun w' hC => ?_) (by rfl) ?_; rotate_left 1; (go_simp; rfl); simp only [Act.put, List.setIfInBounds_toArray, List.set_cons_zero, List.set_cons_succ]))
          refine Lex.lex_nil (fun w9 hC => ?_)
          simp only [Lex.fill]
          have U9 := Lib.hid (UI.out.trans hC)
          clear hC
          go_wp2
          go_roundw
          case rel => exact ⟨i + 1, by omega, by rw [NI.out]; simp, by go_num, U9⟩
          case measure => simp [intOf]; omega
      · obtain rfl : i = es.length := by omega
        have WV := Lib.hid WO2.out
        generalize Pst.need es c es.length = p at *
        have C1 := Lib.hid (fun w' (hu : Lex.Up wr w') => right_val S A5 (es.length + 1) cap5 w' (SS8.out.up (UI.out.trans hu)) false RS.out)
        have C2 := Lib.hid (fun w' (hu : Lex.Up wr w') => right_val D A11 (k + (es.length - (k + 1))) cap11 w' (SW.out.up (UI.out.trans hu)) (!p) WV.out)
        clear WO WO2 NS SS8 SW WV EK
        go_wp2_with fail
        refine (C1.out _ (Lex.Up.refl _)).mono ?_
        rintro x w9 ⟨rfl, u1⟩
        have V1 := Lib.hid u1
        clear u1
        go_wp2_with fail
        refine (C2.out _ V1.out).mono ?_
        rintro x w10 ⟨rfl, u1⟩
        have V2 := Lib.hid (V1.out.trans u1)
        clear u1 C1 C2
        cases p
        · go_wp2
          go_ret
          exact ⟨rfl, U3.out.trans (U8.out.trans (UI.out.trans V2.out))⟩
        · go_wp2
          go_ret
          exact ⟨rfl, U3.out.trans (U8.out.trans (UI.out.trans V2.out))⟩
end Go.Proofs.Ythgfbnkggdlokaa
