/-
  The walk of VarintBack.
-/
import Derived.Test.YtjmafkdbopdljaaLawsD
import Derived.Test.YtjmafkdbopdljaaApp
namespace Go.Proofs.Ytjmafkdbopdljaa
open Go.RowKit

set_option maxRecDepth 100000 in
set_option maxHeartbeats 2000000 in
theorem law_back (a : Nat) (A1 A2 : Option Addr) (n1 cap1 n2 cap2 : Nat) (xs1 xs2 : List Nat) (w : World) (ha : a < 18446744073709551616) (hs1 : Slc w A1 n1 cap1 xs1) (hs2 : Slc w A2 n2 cap2 xs2) :
    Calls Try.prog 4 #[.int .u64 a, .slice A1 n1 cap1, .slice A2 n2 cap2] w fun e w' => e = .returned (.bool true) ∧ Below w.heap.size w w' := by
  obtain ⟨m1, hm1⟩ : ∃ m, min n1 20 = m := ⟨_, rfl⟩
  obtain ⟨m2, hm2⟩ : ∃ m, min n2 20 = m := ⟨_, rfl⟩
  have FEW1 := Lib.hid (fun w => few_any A1 n1 cap1 w hs1.2.1 hs1.2.2.1)
  have FEW2 := Lib.hid (fun w => few_any A2 n2 cap2 w hs2.2.1 hs2.2.2.1)
  have S1 := Lib.hid (hs1.take_ (u := m1) (by omega))
  have S2 := Lib.hid (hs2.take_ (u := m2) (by omega))
  rw [hm1] at FEW1
  rw [hm2] at FEW2
  have hm1' : m1 ≤ 20 := by omega
  have hm2' : m2 ≤ 20 := by omega
  clear hm1 hm2 hs1 hs2
  generalize xs1.take m1 = ys1 at *
  generalize xs2.take m2 = ys2 at *
  have C0 := Lib.hid (shown_any w)
  have C1 := Lib.hid (fun w => put_any a w ha)
  have PL := Lib.hid (Pl.put_lt ha)
  have l11 := Pl.put_len a
  have l0 := (Pl.form_at _ (Pl.form_put ha)).1
  have TP := Lib.hid (fun ys => Pl.take_put ha ys)
  generalize Pl.put a = p at *
  have Y1 := Lib.hid (Pl.lt_of_nth S1.out.2.2.2.1)
  have CT := Lib.hid (fun w (h : Slc w A2 m2 cap2 ys2) => take_any A2 m2 cap2 ys2 w h)
  have TW := Lib.hid (Pl.take_ways S2.out.2.2.2.1)
  have a0 : (0 : Int) ≤ a := by omega
  have a1 : (a : Int) ≤ 18446744073709551615 := by omega
  clear ha
  go_enter Try.func4, Try.ntmps4
  go_wp2_with fail
  refine C0.out.mono ?_
  rintro e w1 ⟨rfl, hb1⟩
  go_wp2_with fail
  refine (C1.out _).mono ?_
  rintro e w2 ⟨A, cA, rfl, hown2, hb2⟩
  have SP := Lib.hid (slc_of_own hown2 PL.out)
  have HB := Lib.hid (hb1.trans (hb2.mono hb1.size))
  have hz2 := HB.out.size
  clear hb1 hb2 hown2
  have O0 := Lib.hid (World.ownsRow_made (base := w.heap.size) (e := 5) (size := 1) w2 #[] 0 hz2 (Nat.zero_le _) rfl)
  have SP2 := Lib.hid (SP.out.below ((Below.refl w2.heap.size w2).alloc (Nat.le_refl _) (.cells #[] 5)))
  go_wp2_with (at_builtin; refine wpList_append_slc rfl _ _ rfl w.heap.size (.slice (some ⟨w2.heap.size, 0, none⟩) 0 0) 0 [] rfl O0.out A p.length cA p rfl SP2.out (by omega) (by simp; omega) ?_)
  intro v3 w3 hown3 hg3
  have HB3 := Lib.hid ((HB.out.alloc hz2 (.cells #[] 5)).grown hg3 (by simp; omega) (fun k hk => by simp [Value.ownBlock] at hk; omega))
  have O3 := Lib.hid hown3
  clear hown3 hg3
  have hz3 := HB3.out.size
  go_wp2_with fail
  refine (FEW1.out _).mono ?_
  rintro e w' ⟨rfl, rfl⟩
  go_wp2_with (at_builtin; refine wpList_append_slc rfl _ _ rfl w.heap.size v3 p.length p rfl O3.out A1 m1 cap1 ys1 rfl (S1.out.below HB3.out) (by omega) hz3 ?_)
  intro v4 w4 hown4 hg4
  rw [← List.map_append] at hown4
  have HB4 := Lib.hid (HB3.out.grown hg4 hz3 (fun k hk => (O3.out.lt k hk).1))
  obtain ⟨A4, c4, hv4, s4⟩ := slc_of_own2 hown4 (fun x hx => by
    rcases List.mem_append.1 hx with h | h
    · exact PL.out x h
    · exact Y1.out x h)
  have t4 := take_any A4 _ c4 _ w4 s4
  rw [TP.out] at t4
  have T4 := Lib.hid t4
  rw [hv4]
  clear t4 s4 hv4 hown4 hg4
  go_wp2_with fail
  refine T4.out.mono ?_
  rintro e w' ⟨rfl, rfl⟩
  go_wp2_with fail
  refine (FEW2.out _).mono ?_
  rintro e w' ⟨rfl, rfl⟩
  go_wp2_with fail
  have S4 := Lib.hid (S2.out.below HB4.out)
  refine (CT.out w4 S4.out).mono ?_
  rintro e w' ⟨rfl, rfl⟩
  rcases TW.out with ⟨y, hy, hv0, ht, hp⟩ | ht | ht
  · have hvl := Pl.vlen_le ys2
    have hl2 := S4.out.1
    rw [ht]
    have C3 := Lib.hid (fun w => put_any y w hy)
    have QL := Lib.hid (Pl.put_lt hy)
    generalize Pl.vlen ys2 = u at *
    have hyq := str_eq QL.out QL.out
    rw [decide_eq_true rfl] at hyq
    have S5 := Lib.hid (S4.out.take_ (u := u) (by omega))
    rw [← hp] at S5
    have CV := Lib.hid (fun w' (h : Lex.Up w4 w') => conv_slc (S5.out.below h))
    generalize Pl.put y = q at *
    have u0 : decide ((u : Int) < 1) = false := by simp; omega
    have u1 : decide (m2 < u) = false := by simp; omega
    have u2 : (0 : Int) ≤ u := by omega
    have u3 : (u : Int) ≤ cap2 := by have := S4.out.2.1; omega
    have y1 : (0 : Int) ≤ y := by omega
    have y2 : (y : Int) ≤ 18446744073709551615 := by omega
    have HH := Lib.hid hp
    clear hp hy hv0 hvl hl2 ht
    go_wp2
    refine Lex.wp_region_lex (by kernel_rfl) (by kernel_rfl) (by rfl) ?_
    refine Lex.lex_pure (c := ?_) (by rfl) (by rfl) (fun w' hC => ?_) (by rfl) ?_
    rotate_left 1
    · go_simp; rfl
    simp only [Act.put, List.setIfInBounds_toArray, List.set_cons_zero, List.set_cons_succ]
    refine Lex.lex_pure (c := ?_) (by rfl) (by rfl) (fun w' hC => ?_) (by rfl) ?_
    rotate_left 1
    · go_simp; rfl
    simp only [Act.put, List.setIfInBounds_toArray, List.set_cons_zero, List.set_cons_succ]
    refine Lex.lex_pure (c := ?_) (by rfl) (by rfl) (fun w' hC => ?_) (by rfl) ?_
    rotate_left 1
    · go_simp; rfl
    simp only [Act.put, List.setIfInBounds_toArray, List.set_cons_zero, List.set_cons_succ]
    refine Lex.lex_pure (c := ?_) (by rfl) (by rfl) (fun w' hC => ?_) (by rfl) ?_
    rotate_left 1
    · go_simp; rfl
    simp only [Act.put, List.setIfInBounds_toArray, List.set_cons_zero, List.set_cons_succ]
    refine Lex.lex_pure (c := ?_) (by rfl) (by rfl) (fun w' hC => ?_) (by rfl) ?_
    rotate_left 1
    · go_simp; rfl
    simp only [Act.put, List.setIfInBounds_toArray, List.set_cons_zero, List.set_cons_succ]
    refine Lex.lex_pure (c := ?_) (by rfl) (by rfl) (fun w' hC => ?_) (by rfl) ?_
    rotate_left 1
    · go_simp; rfl
    simp only [Act.put, List.setIfInBounds_toArray, List.set_cons_zero, List.set_cons_succ]
    refine Lex.lex_pure (c := ?_) (by rfl) (by rfl) (fun w' hC => ?_) (by rfl) ?_
    rotate_left 1
    · go_simp; rfl
    simp only [Act.put, List.setIfInBounds_toArray, List.set_cons_zero, List.set_cons_succ]
    refine Lex.lex_pure (c := ?_) (by rfl) (by rfl) (fun w' hC => ?_) (by rfl) ?_
    rotate_left 1
    · go_simp; rfl
    simp only [Act.put, List.setIfInBounds_toArray, List.set_cons_zero, List.set_cons_succ]
    refine Lex.lex_pure (c := ?_) (by rfl) (by rfl) (fun w' hC => ?_) (by rfl) ?_
    rotate_left 1
    · go_simp; rfl
    simp only [Act.put, List.setIfInBounds_toArray, List.set_cons_zero, List.set_cons_succ]
    refine Lex.lex_pure (c := ?_) (by rfl) (by rfl) (fun w' hC => ?_) (by rfl) ?_
    rotate_left 1
    · go_simp; rfl
    simp only [Act.put, List.setIfInBounds_toArray, List.set_cons_zero, List.set_cons_succ]
    refine Lex.lex_pure (c := ?_) (by rfl) (by rfl) (fun w' hC => ?_) (by rfl) ?_
    rotate_left 1
    · go_simp; rfl
    simp only [Act.put, List.setIfInBounds_toArray, List.set_cons_zero, List.set_cons_succ]
    refine Lex.lex_pure (c := ?_) (by rfl) (by rfl) (fun w' hC => ?_) (by rfl) ?_
    rotate_left 1
    · go_simp; rfl
    simp only [Act.put, List.setIfInBounds_toArray, List.set_cons_zero, List.set_cons_succ]
    refine Lex.lex_pure (c := ?_) (by rfl) (by rfl) (fun w' hC => ?_) (by rfl) ?_
    rotate_left 1
    · go_simp; rfl
    simp only [Act.put, List.setIfInBounds_toArray, List.set_cons_zero, List.set_cons_succ]
    refine Lex.lex_call (f := 13) (args := #[.int .u64 y]) 51 (slcFact q) (by rfl) (by rfl) (by rfl) (slcFact_up _) (fun w' => by go_simp) (fun w' hC => call_slc (C3.out w') QL.out) (by rfl) ?_
    refine Lex.lex_of (c := ?_) (t := 51) (R := slcFact q) (by rfl) (fun v => by rfl) (fun w' hC v hv => ?_) (by rfl) ?_
    rotate_left 1
    · obtain ⟨A1, c1, rfl, hs1⟩ := hv
      have hcv := conv_slc hs1
      go_simp; rfl
    simp only [Act.put, List.setIfInBounds_toArray, List.set_cons_zero, List.set_cons_succ]
    refine Lex.lex_pure (c := ?_) (by rfl) (by rfl) (fun w' hC => ?_) (by rfl) ?_
    rotate_left 1
    · go_simp; rfl
    simp only [Act.put, List.setIfInBounds_toArray, List.set_cons_zero, List.set_cons_succ]
    refine Lex.lex_pure (c := ?_) (by rfl) (by rfl) (fun w' hC => ?_) (by rfl) ?_
    rotate_left 1
    · go_simp; rfl
    simp only [Act.put, List.setIfInBounds_toArray, List.set_cons_zero, List.set_cons_succ]
    refine Lex.lex_pure (c := ?_) (by rfl) (by rfl) (fun w' hC => ?_) (by rfl) ?_
    rotate_left 1
    · go_simp; rfl
    simp only [Act.put, List.setIfInBounds_toArray, List.set_cons_zero, List.set_cons_succ]
    refine Lex.lex_pure (c := ?_) (by rfl) (by rfl) (fun w' hC => ?_) (by rfl) ?_
    rotate_left 1
    · have hcv := CV.out w' hC
      go_simp; rfl
    simp only [Act.put, List.setIfInBounds_toArray, List.set_cons_zero, List.set_cons_succ]
    refine Lex.lex_pure (c := ?_) (by rfl) (by rfl) (fun w' hC => ?_) (by rfl) ?_
    rotate_left 1
    · go_simp; rfl
    simp only [Act.put, List.setIfInBounds_toArray, List.set_cons_zero, List.set_cons_succ]
    refine Lex.lex_pure (c := ?_) (by rfl) (by rfl) (fun w' hC => ?_) (by rfl) ?_
    rotate_left 1
    · go_simp; rfl
    simp only [Act.put, List.setIfInBounds_toArray, List.set_cons_zero, List.set_cons_succ]
    refine Lex.lex_pure (c := ?_) (by rfl) (by rfl) (fun w' hC => ?_) (by rfl) ?_
    rotate_left 1
    · go_simp; rfl
    simp only [Act.put, List.setIfInBounds_toArray, List.set_cons_zero, List.set_cons_succ]
    refine Lex.lex_nil (fun w' hC => ?_)
    intro v1 _
    simp only [Lex.fill, Act.put, List.setIfInBounds_toArray, List.set_cons_zero, List.set_cons_succ]
    go_wp2
    go_ret
    exact ⟨rfl, HB4.out.trans (hC.mono HB4.out.size)⟩
  · rw [ht]
    clear ht
    go_wp2
    refine Lex.wp_region_lex (by kernel_rfl) (by kernel_rfl) (by rfl) ?_
    refine Lex.lex_pure (c := ?_) (by rfl) (by rfl) (fun w' hC => ?_) (by rfl) ?_
    rotate_left 1
    · go_simp; rfl
    simp only [Act.put, List.setIfInBounds_toArray, List.set_cons_zero, List.set_cons_succ]
    refine Lex.lex_pure (c := ?_) (by rfl) (by rfl) (fun w' hC => ?_) (by rfl) ?_
    rotate_left 1
    · go_simp; rfl
    simp only [Act.put, List.setIfInBounds_toArray, List.set_cons_zero, List.set_cons_succ]
    refine Lex.lex_pure (c := ?_) (by rfl) (by rfl) (fun w' hC => ?_) (by rfl) ?_
    rotate_left 1
    · go_simp; rfl
    simp only [Act.put, List.setIfInBounds_toArray, List.set_cons_zero, List.set_cons_succ]
    refine Lex.lex_skip (by rfl) (by rfl) (by rfl) ?_
    simp only [Act.put, List.setIfInBounds_toArray, List.set_cons_zero, List.set_cons_succ]
    refine Lex.lex_skip (by rfl) (by rfl) (by rfl) ?_
    simp only [Act.put, List.setIfInBounds_toArray, List.set_cons_zero, List.set_cons_succ]
    refine Lex.lex_skip (by rfl) (by rfl) (by rfl) ?_
    simp only [Act.put, List.setIfInBounds_toArray, List.set_cons_zero, List.set_cons_succ]
    refine Lex.lex_skip (by rfl) (by rfl) (by rfl) ?_
    simp only [Act.put, List.setIfInBounds_toArray, List.set_cons_zero, List.set_cons_succ]
    refine Lex.lex_skip (by rfl) (by rfl) (by rfl) ?_
    simp only [Act.put, List.setIfInBounds_toArray, List.set_cons_zero, List.set_cons_succ]
    refine Lex.lex_skip (by rfl) (by rfl) (by rfl) ?_
    simp only [Act.put, List.setIfInBounds_toArray, List.set_cons_zero, List.set_cons_succ]
    refine Lex.lex_skip (by rfl) (by rfl) (by rfl) ?_
    simp only [Act.put, List.setIfInBounds_toArray, List.set_cons_zero, List.set_cons_succ]
    refine Lex.lex_skip (by rfl) (by rfl) (by rfl) ?_
    simp only [Act.put, List.setIfInBounds_toArray, List.set_cons_zero, List.set_cons_succ]
    refine Lex.lex_skip (by rfl) (by rfl) (by rfl) ?_
    simp only [Act.put, List.setIfInBounds_toArray, List.set_cons_zero, List.set_cons_succ]
    refine Lex.lex_skip (by rfl) (by rfl) (by rfl) ?_
    simp only [Act.put, List.setIfInBounds_toArray, List.set_cons_zero, List.set_cons_succ]
    refine Lex.lex_skip (by rfl) (by rfl) (by rfl) ?_
    simp only [Act.put, List.setIfInBounds_toArray, List.set_cons_zero, List.set_cons_succ]
    refine Lex.lex_skip (by rfl) (by rfl) (by rfl) ?_
    simp only [Act.put, List.setIfInBounds_toArray, List.set_cons_zero, List.set_cons_succ]
    refine Lex.lex_skip (by rfl) (by rfl) (by rfl) ?_
    simp only [Act.put, List.setIfInBounds_toArray, List.set_cons_zero, List.set_cons_succ]
    refine Lex.lex_skip (by rfl) (by rfl) (by rfl) ?_
    simp only [Act.put, List.setIfInBounds_toArray, List.set_cons_zero, List.set_cons_succ]
    refine Lex.lex_skip (by rfl) (by rfl) (by rfl) ?_
    simp only [Act.put, List.setIfInBounds_toArray, List.set_cons_zero, List.set_cons_succ]
    refine Lex.lex_skip (by rfl) (by rfl) (by rfl) ?_
    simp only [Act.put, List.setIfInBounds_toArray, List.set_cons_zero, List.set_cons_succ]
    refine Lex.lex_skip (by rfl) (by rfl) (by rfl) ?_
    simp only [Act.put, List.setIfInBounds_toArray, List.set_cons_zero, List.set_cons_succ]
    refine Lex.lex_skip (by rfl) (by rfl) (by rfl) ?_
    simp only [Act.put, List.setIfInBounds_toArray, List.set_cons_zero, List.set_cons_succ]
    refine Lex.lex_pure (c := ?_) (by rfl) (by rfl) (fun w' hC => ?_) (by rfl) ?_
    rotate_left 1
    · go_simp; rfl
    simp only [Act.put, List.setIfInBounds_toArray, List.set_cons_zero, List.set_cons_succ]
    refine Lex.lex_nil (fun w' hC => ?_)
    simp only [Lex.fill]
    go_wp2
    go_ret
    exact ⟨rfl, HB4.out.trans (hC.mono HB4.out.size)⟩
  · rw [ht]
    clear ht
    go_wp2
    refine Lex.wp_region_lex (by kernel_rfl) (by kernel_rfl) (by rfl) ?_
    refine Lex.lex_pure (c := ?_) (by rfl) (by rfl) (fun w' hC => ?_) (by rfl) ?_
    rotate_left 1
    · go_simp; rfl
    simp only [Act.put, List.setIfInBounds_toArray, List.set_cons_zero, List.set_cons_succ]
    refine Lex.lex_pure (c := ?_) (by rfl) (by rfl) (fun w' hC => ?_) (by rfl) ?_
    rotate_left 1
    · go_simp; rfl
    simp only [Act.put, List.setIfInBounds_toArray, List.set_cons_zero, List.set_cons_succ]
    refine Lex.lex_pure (c := ?_) (by rfl) (by rfl) (fun w' hC => ?_) (by rfl) ?_
    rotate_left 1
    · go_simp; rfl
    simp only [Act.put, List.setIfInBounds_toArray, List.set_cons_zero, List.set_cons_succ]
    refine Lex.lex_skip (by rfl) (by rfl) (by rfl) ?_
    simp only [Act.put, List.setIfInBounds_toArray, List.set_cons_zero, List.set_cons_succ]
    refine Lex.lex_skip (by rfl) (by rfl) (by rfl) ?_
    simp only [Act.put, List.setIfInBounds_toArray, List.set_cons_zero, List.set_cons_succ]
    refine Lex.lex_skip (by rfl) (by rfl) (by rfl) ?_
    simp only [Act.put, List.setIfInBounds_toArray, List.set_cons_zero, List.set_cons_succ]
    refine Lex.lex_skip (by rfl) (by rfl) (by rfl) ?_
    simp only [Act.put, List.setIfInBounds_toArray, List.set_cons_zero, List.set_cons_succ]
    refine Lex.lex_skip (by rfl) (by rfl) (by rfl) ?_
    simp only [Act.put, List.setIfInBounds_toArray, List.set_cons_zero, List.set_cons_succ]
    refine Lex.lex_skip (by rfl) (by rfl) (by rfl) ?_
    simp only [Act.put, List.setIfInBounds_toArray, List.set_cons_zero, List.set_cons_succ]
    refine Lex.lex_skip (by rfl) (by rfl) (by rfl) ?_
    simp only [Act.put, List.setIfInBounds_toArray, List.set_cons_zero, List.set_cons_succ]
    refine Lex.lex_skip (by rfl) (by rfl) (by rfl) ?_
    simp only [Act.put, List.setIfInBounds_toArray, List.set_cons_zero, List.set_cons_succ]
    refine Lex.lex_skip (by rfl) (by rfl) (by rfl) ?_
    simp only [Act.put, List.setIfInBounds_toArray, List.set_cons_zero, List.set_cons_succ]
    refine Lex.lex_skip (by rfl) (by rfl) (by rfl) ?_
    simp only [Act.put, List.setIfInBounds_toArray, List.set_cons_zero, List.set_cons_succ]
    refine Lex.lex_skip (by rfl) (by rfl) (by rfl) ?_
    simp only [Act.put, List.setIfInBounds_toArray, List.set_cons_zero, List.set_cons_succ]
    refine Lex.lex_skip (by rfl) (by rfl) (by rfl) ?_
    simp only [Act.put, List.setIfInBounds_toArray, List.set_cons_zero, List.set_cons_succ]
    refine Lex.lex_skip (by rfl) (by rfl) (by rfl) ?_
    simp only [Act.put, List.setIfInBounds_toArray, List.set_cons_zero, List.set_cons_succ]
    refine Lex.lex_skip (by rfl) (by rfl) (by rfl) ?_
    simp only [Act.put, List.setIfInBounds_toArray, List.set_cons_zero, List.set_cons_succ]
    refine Lex.lex_skip (by rfl) (by rfl) (by rfl) ?_
    simp only [Act.put, List.setIfInBounds_toArray, List.set_cons_zero, List.set_cons_succ]
    refine Lex.lex_skip (by rfl) (by rfl) (by rfl) ?_
    simp only [Act.put, List.setIfInBounds_toArray, List.set_cons_zero, List.set_cons_succ]
    refine Lex.lex_skip (by rfl) (by rfl) (by rfl) ?_
    simp only [Act.put, List.setIfInBounds_toArray, List.set_cons_zero, List.set_cons_succ]
    refine Lex.lex_skip (by rfl) (by rfl) (by rfl) ?_
    simp only [Act.put, List.setIfInBounds_toArray, List.set_cons_zero, List.set_cons_succ]
    refine Lex.lex_pure (c := ?_) (by rfl) (by rfl) (fun w' hC => ?_) (by rfl) ?_
    rotate_left 1
    · go_simp; rfl
    simp only [Act.put, List.setIfInBounds_toArray, List.set_cons_zero, List.set_cons_succ]
    refine Lex.lex_nil (fun w' hC => ?_)
    simp only [Lex.fill]
    go_wp2
    go_ret
    exact ⟨rfl, HB4.out.trans (hC.mono HB4.out.size)⟩
end Go.Proofs.Ytjmafkdbopdljaa
