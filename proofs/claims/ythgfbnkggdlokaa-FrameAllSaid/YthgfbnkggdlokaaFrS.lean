/-
  The walks of what compares events, and frames.
-/
import Derived.Test.YthgfbnkggdlokaaFrA
namespace Go.Proofs.Ythgfbnkggdlokaa
open Go.RowKit
set_option maxRecDepth 100000

theorem list_ext_nth {es fs : List Ev} (hl : es.length = fs.length) (h : ∀ j, j < es.length → Ev.nth es j = Ev.nth fs j) : es = fs := by
  apply List.ext_getElem hl
  intro i h1 h2
  have := h i h1
  simpa [Ev.nth, h1, h2] using this
def SameRel (n : Nat) (es fs : List Ev) (w : World) (v5 : Value) (wr : World) : Prop :=
  ∃ i : Nat, i ≤ n ∧ v5 = .int .i64 i ∧ Hid (∀ j, j < i → Ev.nth es j = Ev.nth fs j) ∧ Hid (Lex.Up w wr)
set_option maxHeartbeats 1600000 in
theorem same6_any (A B : Option Addr) (n m cap cap2 : Nat) (es fs : List Ev) (w : World) (ha : EvSl w A n cap es) (hb : EvSl w B m cap2 fs) :
    Calls Try.prog 30 #[.slice A n cap, .slice B m cap2] w fun x w' => x = .returned (.bool (decide (es = fs))) ∧ Below w.heap.size w w' := by
  have SA := Lib.hid (fun w' (hu : Lex.Up w w') => EvSl.up ha hu)
  have SB := Lib.hid (fun w' (hu : Lex.Up w w') => EvSl.up hb hu)
  have la := ha.len
  have lb := hb.len
  have lim := ha.lim
  have AA := Lib.hid ha.addr
  have AB := Lib.hid hb.addr
  clear ha hb
  obtain ⟨z, hz⟩ : ∃ z, decide (es = fs) = z := ⟨_, rfl⟩
  rw [hz]
  by_cases hnm : n = m
  rotate_left
  · have hd : ((n : Int) != (m : Int)) = true := by simp [bne]; omega
    have hz0 : z = false := by rw [← hz]; simp; rintro rfl; omega
    subst hz0
    clear hz
    go_enter Try.func30, Try.ntmps30
    go_wp2
    go_ret
    exact ⟨rfl, Below.refl _ _⟩
  subst hnm
  have HT := Lib.hid (show (∀ j, j < n → Ev.nth es j = Ev.nth fs j) → z = true from fun h => by rw [← hz, decide_eq_true (list_ext_nth (by omega) (fun j hj => h j (by omega)))])
  have HF := Lib.hid (show ∀ j, Ev.nth es j ≠ Ev.nth fs j → z = false from fun j h => by rw [← hz, decide_eq_false]; rintro rfl; exact h rfl)
  clear hz la lb
  go_enter Try.func30, Try.ntmps30
  go_wp2
  go_loopw [5] (fun v5 wr => SameRel n es fs w v5 wr) (fun v5 _ => n - (intOf v5).toNat)
  case atStart => exact ⟨0, by omega, rfl, Lib.hid (fun j hj => absurd hj (by omega)), Lib.hid (Lex.Up.refl w)⟩
  case round =>
    obtain ⟨i, hi, rfl, HA, KU⟩ := hrel
    by_cases h5 : i < n
    · have h5' : (i : Int) < n := by omega
      obtain ⟨b, off, rfl⟩ := AA.out (by omega)
      obtain ⟨b2, off2, rfl⟩ := AB.out (by omega)
      have FA := Lib.hid (fun w' (h : Lex.Up wr w') => ev_at (SA.out w' (KU.out.trans h)) h5)
      have FB := Lib.hid (fun w' (h : Lex.Up wr w') => ev_at (SB.out w' (KU.out.trans h)) h5)
      have HZ := Lib.hid (HF.out i)
      have HN := Lib.hid (fun (h : Ev.nth es i = Ev.nth fs i) => (show ∀ j, j < i + 1 → Ev.nth es j = Ev.nth fs j from fun j hj => by
        rcases Nat.lt_succ_iff_lt_or_eq.1 hj with h1 | rfl
        · exact HA.out j h1
        · exact h))
      generalize Ev.nth es i = x at FA HZ HN
      generalize Ev.nth fs i = y at FB HZ HN
      have EQ := fun w => eq_ev x y w
      obtain ⟨q, hq⟩ : ∃ q, decide (x = y) = q := ⟨_, rfl⟩
      rw [hq] at EQ
      have HQ := Lib.hid hq
      clear hq HA
      go_wp2
      refine Lex.wp_region_lex (by kernel_rfl) (by kernel_rfl) (by rfl) ?_
      repeat (first | (refine Lex.lex_skip (by rfl) (by rfl) (by rfl) ?_; simp only [Act.put, List.setIfInBounds_toArray, List.set_cons_zero, List.set_cons_succ]) | (refine Lex.lex_pure (c := ?_) (by rfl) (by rfl) (fun w' hC => ?_) (by rfl) ?_; rotate_left 1; (have ⟨k0, k1, k2, k3, k4, k5, k6, k7, k8, k9, k10, k11⟩ := FA.out w' hC; have ⟨j0, j1, j2, j3, j4, j5, j6, j7, j8, j9, j10, j11⟩ := FB.out w' hC; go_simp; rfl); simp only [Act.put, List.setIfInBounds_toArray, List.set_cons_zero, List.set_cons_succ]))
      refine Lex.lex_nil (fun w5 hC => ?_)
      simp only [Lex.fill]
      have U5 := Lib.hid (KU.out.trans hC)
      clear hC FA FB EQ
      cases q
      · have hz0 := HZ.out (of_decide_eq_false HQ.out)
        subst hz0
        go_wp2
        go_ret
        exact ⟨rfl, U5.out⟩
      · have hn := Lib.hid (HN.out (of_decide_eq_true HQ.out))
        go_wp2
        go_roundw
        case rel => exact ⟨i + 1, by omega, by go_num, hn, U5⟩
        case measure => simp [intOf]; omega
    · obtain rfl : i = n := by omega
      have hz1 := HT.out HA.out
      subst hz1
      go_wp2
      go_ret
      exact ⟨rfl, KU.out⟩
theorem Fr.ext_iff' (a b : Fr) : a = b ↔ a.k = b.k ∧ a.r = b.r ∧ a.u = b.u ∧ a.c = b.c ∧ a.es = b.es := by
  cases a; cases b; simp
instance : DecidableEq Fr := fun a b => decidable_of_iff _ (Fr.ext_iff' a b).symm
set_option maxHeartbeats 1600000 in
theorem same7_any (f g : Fr) (A B : Option Addr) (n m cap cap2 : Nat) (w : World) (ha : EvSl w A n cap f.es) (hb : EvSl w B m cap2 g.es) :
    Calls Try.prog 19 #[f.val (.slice A n cap), g.val (.slice B m cap2)] w fun x w' => x = .returned (.bool (decide (f = g))) ∧ Below w.heap.size w w' := by
  have U0 := Lib.hid (show Lex.Up w ((w.alloc (.cells (f.cells (.slice A n cap)) 26)).alloc (.cells (g.cells (.slice B m cap2)) 26)) from up_blk (up_blk (Lex.Up.refl w)))
  have C := Lib.hid (fun w' (hu : Lex.Up w w') => same6_any A B n m cap cap2 f.es g.es w' (ha.up hu) (hb.up hu))
  have E := fun w => eq_clk f.c g.c w
  have V := Lib.hid (show decide (f = g) = (decide (f.k = g.k) && (decide (f.r = g.r) && (decide (f.u = g.u) && (decide (f.c = g.c) && decide (f.es = g.es))))) by
    rw [Bool.eq_iff_iff]; simp [Fr.ext_iff'])
  clear ha hb
  generalize decide (f = g) = z at *
  generalize decide (f.es = g.es) = q5 at *
  generalize decide (f.c = g.c) = q4 at *
  obtain ⟨q1, h1⟩ : ∃ q, decide (f.k = g.k) = q := ⟨_, rfl⟩
  obtain ⟨q2, h2⟩ : ∃ q, decide (f.r = g.r) = q := ⟨_, rfl⟩
  obtain ⟨q3, h3⟩ : ∃ q, decide (f.u = g.u) = q := ⟨_, rfl⟩
  rw [h1, h2, h3] at V
  have d1 : (f.k == g.k) = q1 := h1
  have d2 : (f.r == g.r) = q2 := h2
  have d3 : (f.u == g.u) = q3 := h3
  clear h1 h2 h3
  unfold Fr.val
  go_enter Try.func19, Try.ntmps19
  go_upto_region 1 with (fail)
  cases q1
  · go_wp2
    go_ret
    exact ⟨by rw [V.out]; rfl, U0.out⟩
  cases q2
  · go_wp2
    go_ret
    exact ⟨by rw [V.out]; rfl, U0.out⟩
  cases q3
  · go_wp2
    go_ret
    exact ⟨by rw [V.out]; rfl, U0.out⟩
  cases q4
  · go_wp2
    go_ret
    exact ⟨by rw [V.out]; rfl, U0.out⟩
  go_wp2_with fail
  refine (C.out _ U0.out).mono ?_
  rintro x w1 ⟨rfl, hb1⟩
  have U1 := Lib.hid (U0.out.trans hb1)
  clear hb1 C E
  go_wp2
  go_ret
  exact ⟨by rw [V.out]; rfl, U1.out⟩
end Go.Proofs.Ythgfbnkggdlokaa
