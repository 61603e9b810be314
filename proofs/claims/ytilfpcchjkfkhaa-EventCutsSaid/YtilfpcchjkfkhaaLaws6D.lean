/-
  The walk of EventBack.
-/
import Derived.Test.YtilfpcchjkfkhaaLaws6A
import Derived.Test.YtilfpcchjkfkhaaEvT
import Derived.Test.YtilfpcchjkfkhaaEvE
import Derived.Lib.MinMax
namespace Go.Proofs.Ytilfpcchjkfkhaa
open Go.RowKit

theorem few_any (A : Option Addr) (n cap : Nat) (w : World) (hc : n ≤ cap) :
    Calls Try.prog 12 #[.slice A n cap] w fun e w' => e = .returned (.slice A (min n 80) cap) ∧ w = w' := by
  have e : (min (n : Int) 80).toNat = min n 80 := by omega
  have E := Lib.hid e; clear e
  go_enter Try.func12, Try.ntmps12
  go_wp2
  go_ret
  exact ⟨by rw [← E.out]; rfl, rfl⟩
theorem eq_self (x : Ev) (w : World) : (Op.equalIn 10000 25 (.agg #[.int .i64 x.r, .int .i64 x.n, .int .i64 x.c.c0, .int .i64 x.c.c1, .int .i64 x.c.c2, .int .i64 x.c.c3, .int .i64 x.c.c4, .int .i64 x.h, .int .i64 x.k, .string x.key, .int .i64 x.l, .string x.v]) (.agg #[.int .i64 x.r, .int .i64 x.n, .int .i64 x.c.c0, .int .i64 x.c.c1, .int .i64 x.c.c2, .int .i64 x.c.c3, .int .i64 x.c.c4, .int .i64 x.h, .int .i64 x.k, .string x.key, .int .i64 x.l, .string x.v])).run Try.prog w = .ok true w := by
  rw [eq_ev]; simp

set_option maxRecDepth 100000 in
set_option maxHeartbeats 4000000 in
theorem law_back (a : Ev) (A1 A2 : Option Addr) (n1 cap1 n2 cap2 : Nat) (xs1 xs2 : List Nat) (w : World) (hk : a.key.size ≤ 140737488351232) (hv : a.v.size ≤ 140737488351232) (hs1 : Slc w A1 n1 cap1 xs1) (hs2 : Slc w A2 n2 cap2 xs2) :
    Calls Try.prog 3 #[a.val, .slice A1 n1 cap1, .slice A2 n2 cap2] w fun e w' => e = .returned (.bool true) ∧ Below w.heap.size w w' := by
  have FEW1 := Lib.hid (fun w => few_any A1 n1 cap1 w hs1.2.1)
  have FEW2 := Lib.hid (fun w => few_any A2 n2 cap2 w hs2.2.1)
  have S1 := Lib.hid (hs1.take_ (u := min n1 80) (by omega))
  have S2 := Lib.hid (hs2.take_ (u := min n2 80) (by omega))
  have hm1 : min n1 80 ≤ 80 := by omega
  have hm2 : min n2 80 ≤ 80 := by omega
  generalize min n1 80 = m1 at *
  generalize min n2 80 = m2 at *
  clear hs1 hs2
  generalize xs1.take m1 = ys1 at *
  generalize xs2.take m2 = ys2 at *
  have Y1 : Bts ys1 := Pl.lt_of_nth S1.out.2.2.2.1
  have Y2 : Bts ys2 := Pl.lt_of_nth S2.out.2.2.2.1
  have C0 := Lib.hid (fun w => shown_any w)
  have CA := Lib.hid (fun w => fit6_any a w hk hv)
  have CP := Lib.hid (fun x w h1 h2 => eput_any x w h1 h2)
  have CT := Lib.hid (fun A n cap xs w h => etake_any A n cap xs w h)
  clear hk hv
  have KA := Lib.hid (Blk.new w a.cells 25)
  have U0 := Lib.hid (show Lex.Up w (w.alloc (.cells a.cells 25)) from up_blk (Lex.Up.refl w))
  unfold Ev.val at *
  go_enter Try.func3, Try.ntmps3
  go_wp2_with fail
  refine (C0.out _).mono ?_
  rintro e w1 ⟨rfl, hb1⟩
  have KA1 := Lib.hid (KA.out.up hb1); have U1 := Lib.hid (U0.out.trans hb1)
  clear KA U0 hb1
  obtain ⟨k0, k1, k2, k3, k4, k5, k6, k7, k8, k9, k10, k11⟩ := Blk.all w1 KA1.out
  go_wp2_with fail
  refine (CA.out _).mono ?_
  rintro e w2 ⟨x, hx, rfl, hb2⟩
  have KX := Lib.hid (Blk.new w2 x.cells 25)
  have UX := Lib.hid (show Lex.Up w (w2.alloc (.cells x.cells 25)) from up_blk (U1.out.trans hb2))
  clear k0 k1 k2 k3 k4 k5 k6 k7 k8 k9 k10 k11 KA1 U1 hb2 C0 CA
  simp only
  have CPX := Lib.hid (fun w => CP.out x w (by have := hx.n1; omega) (by have := hx.nM; omega))
  rw [(Ev.good_iff x).2 hx, Ev.out_good hx] at CPX
  have BL := Ev.bytes_len hx
  have BT := Lib.hid (Ev.bytes_lt hx)
  have TP := Lib.hid (Fl.take_bytes hx ys1)
  clear hx
  generalize hp : Ev.bytes x = p at *
  clear hp
  go_wp2_with fail
  refine (CPX.out _).mono ?_
  rintro e w4 ⟨v, rfl, hown, hb4⟩
  have U4 := Lib.hid (show Lex.Up w w4 from UX.out.trans hb4)
  have K4 := Lib.hid (KX.out.up hb4)
  obtain ⟨A, cA, rfl, hs⟩ := slc_of_own2 hown BT.out
  have SP := Lib.hid (hs.below (w' := w4.alloc (.cells #[] 5)) (up_blk (Lex.Up.refl w4)))
  clear hown hb4 hs CPX UX KX
  have O0 := Lib.hid (World.ownsRow_made (base := w4.heap.size) (e := 5) (size := 1) w4 #[] 0 (Nat.le_refl _) (Nat.zero_le _) rfl)
  go_wp2_with (at_builtin; refine wpList_append_slc rfl _ _ rfl w4.heap.size (.slice (some ⟨w4.heap.size, 0, none⟩) 0 0) 0 [] rfl O0.out A p.length cA p rfl SP.out (by omega) (by simp) ?_)
  intro v5 w5 hown5 hg5
  have U5 := Lib.hid (show Lex.Up w4 w5 from Below.grown (up_blk (Lex.Up.refl w4)) hg5 (by simp) (own_base O0.out))
  have O5 := Lib.hid (show w5.ownsRow w4.heap.size 5 1 v5 p.length (p.map bv) by simpa using hown5)
  have Z5 : w4.heap.size ≤ w5.heap.size := U5.out.size
  clear hown5 hg5 O0 SP
  go_wp2_with fail
  refine (FEW1.out _).mono ?_
  rintro e w' ⟨rfl, rfl⟩
  go_wp2_with (at_builtin; refine wpList_append_slc rfl _ _ rfl w4.heap.size v5 p.length p rfl O5.out A1 m1 cap1 ys1 rfl (S1.out.below (U4.out.trans U5.out)) (by omega) Z5 ?_)
  intro v6 w6 hown6 hg6
  have U6 := Lib.hid (show Lex.Up w4 w6 from Below.grown U5.out hg6 Z5 (own_base O5.out))
  obtain ⟨A6, c6, rfl, s6⟩ := slc_of_own2 (show w6.ownsRow w4.heap.size 5 1 v6 (p.length + m1) ((p ++ ys1).map bv) by simpa using hown6) (fun q hq => by
    rcases List.mem_append.1 hq with h | h
    · exact BT.out q h
    · exact Y1 q h)
  have t6 := CT.out A6 _ c6 _ w6 s6
  rw [TP.out] at t6
  have T6 := Lib.hid t6
  clear t6 s6 hown6 hg6 O5 U5 Z5 TP
  go_wp2_with fail
  refine T6.out.mono ?_
  rintro e w7 ⟨rfl, hb7⟩
  have u7 : Lex.Up w4 w7 := U6.out.trans hb7
  have KY := Lib.hid (Blk.new w7 x.cells 25)
  have U7 := Lib.hid (show Lex.Up w4 (w7.alloc (.cells x.cells 25)) from up_blk u7)
  have S7 := Lib.hid (S2.out.below (U4.out.trans U7.out))
  clear u7 hb7 U6 T6
  simp only
  go_wp2_with fail
  refine (FEW2.out _).mono ?_
  rintro e w' ⟨rfl, rfl⟩
  go_wp2_with fail
  refine (CT.out A2 m2 cap2 ys2 _ S7.out).mono ?_
  rintro e w8 ⟨rfl, hb8⟩
  have TO := Lib.hid (fun h => Fl.take_of Y2 h)
  have TB := Lib.hid (fun h => Fl.take_bad Y2 h)
  generalize Fl.takeF ys2 = T at *
  obtain ⟨z, u, g⟩ := T
  simp only
  have hq := fun w => eq_self x w
  by_cases hg : g = 0
  · subst hg
    obtain ⟨gz, hu, hub, hbz⟩ := TO.out rfl
    simp only at gz hu hub hbz
    have KZ := Lib.hid ((KY.out.up hb8).alloc (.cells z.cells 25))
    have JZ := Lib.hid (Blk.new w8 z.cells 25)
    have U8 := Lib.hid (show Lex.Up w4 (w8.alloc (.cells z.cells 25)) from up_blk (U7.out.trans hb8))
    have hb8' := hb8
    have CPZ := Lib.hid (fun w => CP.out z w (by have := gz.n1; omega) (by have := gz.nM; omega))
    rw [(Ev.good_iff z).2 gz, Ev.out_good gz] at CPZ
    have BZ := Lib.hid (Ev.bytes_lt gz)
    have S8 := Lib.hid (S2.out.below (U4.out.trans U8.out))
    have hl2 := S2.out.1
    clear TO TB gz CP CT hb8 S7 U7
    rw [← hbz] at CPZ BZ
    have hqb := str_eq BZ.out BZ.out
    rw [decide_eq_true rfl] at hqb
    have S9 := Lib.hid (S8.out.take_ (u := u) (by omega))
    generalize ys2.take u = q at *
    have hul : u = q.length := by rw [S9.out.1]
    clear hub hbz
    go_wp2_with fail
    refine (CPZ.out _).mono ?_
    rintro e w9 ⟨v9, rfl, hown9, hb9⟩
    have U9 := Lib.hid (U8.out.trans hb9)
    obtain ⟨A9, c9, rfl, h9⟩ := slc_of_own2 hown9 BZ.out
    subst hul
    have CV1 := Lib.hid (fun w' (h : Lex.Up w9 w') => conv_slc (h9.below h))
    have CV2 := Lib.hid (fun w' (h : Lex.Up w9 w') => conv_slc ((S9.out.below hb9).below h))
    have KX9 := Lib.hid (K4.out.up U9.out)
    have KY9 := Lib.hid ((KY.out.up hb8').up (by
      exact (up_blk (Lex.Up.refl w8)).trans hb9))
    have u1 : decide (m2 < q.length) = false := by simp; omega
    have u3 : (q.length : Int) ≤ cap2 := by have := S8.out.2.1; omega
    have u4 : ((q.length : Int) == q.length) = true := by simp
    clear hown9 h9 hb9 S8 S9 hl2 JZ KZ CPZ BZ U8 K4 KY hb8'
    generalize str q = s at *
    have hp44 : (p.length : Int) ≤ 44 := by omega
    go_wp2
    refine Lex.wp_region_lex (by kernel_rfl) (by kernel_rfl) (by rfl) ?_
    repeat (first | (refine Lex.lex_skip (by rfl) (by rfl) (by rfl) ?_; simp only [Act.put, List.setIfInBounds_toArray, List.set_cons_zero, List.set_cons_succ]) | (refine Lex.lex_pure (c := ?_) (by rfl) (by rfl) (fun w' hC => ?_) (by rfl) ?_; rotate_left 1; (have hc1 := CV1.out w' hC; have hc2 := CV2.out w' hC; go_simp; rfl); simp only [Act.put, List.setIfInBounds_toArray, List.set_cons_zero, List.set_cons_succ]))
    refine Lex.lex_nil (fun w10 hC => ?_)
    simp only [Lex.fill]
    have U10 := Lib.hid (U4.out.trans (U9.out.trans hC))
    obtain ⟨k0, k1, k2, k3, k4, k5, k6, k7, k8, k9, k10, k11⟩ := Blk.all w10 (KX9.out.up hC)
    obtain ⟨j0, j1, j2, j3, j4, j5, j6, j7, j8, j9, j10, j11⟩ := Blk.all w10 (KY9.out.up hC)
    clear hC hqb KX9 KY9 CV1 CV2 U9
    go_wp2
    go_ret
    exact ⟨rfl, U10.out⟩
  · have gb := TB.out hg
    have hz : z = Ev.zero ∧ u = 0 ∧ (g = 2 ∨ g = 3) := by
      rcases gb with h | h
      · simp only [Prod.mk.injEq] at h; exact ⟨h.1, h.2.1, .inl h.2.2⟩
      · simp only [Prod.mk.injEq] at h; exact ⟨h.1, h.2.1, .inr h.2.2⟩
    obtain ⟨rfl, rfl, hg23⟩ := hz
    have KX8 := Lib.hid ((K4.out.up (U7.out.trans hb8)).alloc (.cells Ev.zero.cells 25))
    have KY8 := Lib.hid ((KY.out.up hb8).alloc (.cells Ev.zero.cells 25))
    have KZ8 := Lib.hid (Blk.new w8 Ev.zero.cells 25)
    have U8 := Lib.hid (U4.out.trans (up_blk (cs := Ev.zero.cells) (t := 25) (U7.out.trans hb8)))
    have hq0 := fun w => eq_self Ev.zero w
    simp only [Ev.zero, Ck.zero] at hq0
    have hp44 : (p.length : Int) ≤ 44 := by omega
    clear TO TB gb hg S7 U7 hb8 CT CP FEW1 FEW2 K4 KY
    simp only [Ev.zero, Ck.zero]
    rcases hg23 with rfl | rfl
    · go_upto_region 11 with (fail)
      refine wp_named (fun W hW => ?_)
      change W = w8.alloc (.cells Ev.zero.cells 25) at hW
      rw [← hW] at KX8 KY8 KZ8 U8
      clear hW
      obtain ⟨k0, k1, k2, k3, k4, k5, k6, k7, k8, k9, k10, k11⟩ := Blk.all W KX8.out
      obtain ⟨j0, j1, j2, j3, j4, j5, j6, j7, j8, j9, j10, j11⟩ := Blk.all W KY8.out
      obtain ⟨l0, l1, l2, l3, l4, l5, l6, l7, l8, l9, l10, l11⟩ := Blk.all W KZ8.out
      simp only [Ev.zero, Ck.zero] at l0 l1 l2 l3 l4 l5 l6 l7 l8 l9 l10 l11
      clear KX8 KY8 KZ8
      go_wp2
      go_ret
      exact ⟨rfl, U8.out⟩
    · go_upto_region 11 with (fail)
      refine wp_named (fun W hW => ?_)
      change W = w8.alloc (.cells Ev.zero.cells 25) at hW
      rw [← hW] at KX8 KY8 KZ8 U8
      clear hW
      obtain ⟨k0, k1, k2, k3, k4, k5, k6, k7, k8, k9, k10, k11⟩ := Blk.all W KX8.out
      obtain ⟨j0, j1, j2, j3, j4, j5, j6, j7, j8, j9, j10, j11⟩ := Blk.all W KY8.out
      obtain ⟨l0, l1, l2, l3, l4, l5, l6, l7, l8, l9, l10, l11⟩ := Blk.all W KZ8.out
      simp only [Ev.zero, Ck.zero] at l0 l1 l2 l3 l4 l5 l6 l7 l8 l9 l10 l11
      clear KX8 KY8 KZ8
      go_wp2
      go_ret
      exact ⟨rfl, U8.out⟩
end Go.Proofs.Ytilfpcchjkfkhaa
