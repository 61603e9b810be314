/-
  The walk of EventSizes.
-/
import Derived.Test.YtilfpcchjkfkhaaLaws6A
namespace Go.Proofs.Ytilfpcchjkfkhaa
open Go.RowKit

def LongRel (n : Nat) (v0 v3 : Value) : Prop := ∃ m k : Nat, m ≤ n ∧ v0 = .int .i64 m ∧ v3 = .int .i64 k ∧ Hid (k + (Pl.put m).length = (Pl.put n).length + 1) ∧ k ≤ 20
set_option maxRecDepth 100000 in
theorem long_any (n : Nat) (hn : n < 9223372036854775808) (w : World) : Calls Try.prog 14 #[.int .i64 n] w fun e w' => e = .returned (.int .i64 ((Pl.put n).length : Nat)) ∧ w' = w := by
  have HL := Lib.hid (Pl.put_len n)
  go_enter Try.func14, Try.ntmps14
  go_wp2
  go_loop [0, 3] (fun v0 v3 => LongRel n v0 v3) (fun v0 _ => (intOf v0).toNat)
  case atStart => exact ⟨n, 1, Nat.le_refl _, rfl, rfl, Lib.hid (Nat.add_comm _ _), by omega⟩
  case round =>
    obtain ⟨m, k, hm, rfl, rfl, HK, hk⟩ := hrel
    by_cases hlt : 128 ≤ m
    · have hm2 : (m : Int) ≤ 9223372036854775807 := by omega
      have hk2 : k + 1 ≤ 20 := by
        have h1 := HK.out; have h2 := HL.out
        rw [Pl.put_hi (by omega) (by omega)] at h1
        simp only [List.length_cons] at h1
        omega
      go_wp2
      go_round
      case rel => exact ⟨m / 128, k + 1, by omega, by go_num, by go_num, Lib.hid (by rw [← HK.out, Pl.put_hi (n := m) (by omega) (by omega)]; simp; omega), hk2⟩
      case measure => simp [intOf]; omega
    · have hk3 : k = (Pl.put n).length := by
        have h1 := HK.out
        rw [Pl.put_lo (by omega)] at h1
        simp at h1
        omega
      have K3 := Lib.hid hk3
      clear HK hk3
      go_wp2
      go_ret
      exact ⟨by rw [K3.out]; rfl, rfl⟩

def SizeRel (W : World) (A : Nat) (r : Int) (c : Ck) (v7 v8 : Value) (wr : World) : Prop := ∃ i L : Nat, i ≤ 5 ∧ v8 = .int .i64 i ∧ v7 = .int .i64 (A + L : Nat) ∧ Hid (L = (Ev.others r c i).length) ∧ L ≤ 55 ∧ Hid (Lex.Up W wr)
set_option maxRecDepth 100000 in
set_option maxHeartbeats 4000000 in
theorem law_sizes (a : Ev) (w : World) (h1 : a.key.size ≤ 140737488351232) (h2 : a.v.size ≤ 140737488351232) :
    Calls Try.prog 6 #[a.val] w fun e w' => e = .returned (.bool true) ∧ Below w.heap.size w w' := by
  have C0 := Lib.hid (fun w => shown_any w)
  have CA := Lib.hid (fun w => fit6_any a w h1 h2)
  have CP := Lib.hid (fun x w h1 h2 => eput_any x w h1 h2)
  have CG := Lib.hid (fun n hn w => up_same (long_any n hn w))
  clear h1 h2
  have KA := Lib.hid (Blk.new w a.cells 25)
  have U0 := Lib.hid (show Below w.heap.size w (w.alloc (.cells a.cells 25)) from (Below.refl w.heap.size w).alloc (Nat.le_refl _) _)
  unfold Ev.val at *
  go_enter Try.func6, Try.ntmps6
  go_wp2_with fail
  refine (C0.out _).mono ?_
  rintro e w1 ⟨rfl, hb1⟩
  have KA1 := Lib.hid (KA.out.up hb1); have U1 := Lib.hid (U0.out.trans (hb1.mono U0.out.size))
  clear KA U0 hb1
  obtain ⟨k0, k1, k2, k3, k4, k5, k6, k7, k8, k9, k10, k11⟩ := Blk.all w1 KA1.out
  go_wp2_with fail
  refine (CA.out _).mono ?_
  rintro e w2 ⟨x, hx, rfl, hb2⟩
  have KX := Lib.hid (Blk.new w2 x.cells 25)
  have U2 := Lib.hid (U1.out.trans (hb2.mono U1.out.size))
  have UX := Lib.hid (show Below w.heap.size w (w2.alloc (.cells x.cells 25)) from U2.out.alloc U2.out.size _)
  clear k0 k1 k2 k3 k4 k5 k6 k7 k8 k9 k10 k11 KA1 U1 hb2 C0 CA
  simp only
  have CPX := Lib.hid (fun w => CP.out x w (by have := hx.n1; omega) (by have := hx.nM; omega))
  rw [(Ev.good_iff x).2 hx, Ev.out_good hx] at CPX
  have BL := Ev.bytes_len hx
  have BT := Lib.hid (Ev.bytes_lt hx)
  have HX := Lib.hid hx
  clear hx CP
  go_wp2_with fail
  refine (CPX.out _).mono ?_
  rintro e w4 ⟨v, rfl, hown, hb4⟩
  have U4 := Lib.hid (show Below w.heap.size w w4 from UX.out.trans (hb4.mono UX.out.size))
  have K4 := Lib.hid (KX.out.up hb4)
  obtain ⟨A, cap, rfl, hs⟩ := slc_of_own2 hown BT.out
  have SB := Lib.hid hs
  clear hown hb4 hs CPX UX U2 KX
  have FX := Lib.hid (fun w' (h : Lex.Up w4 w') => Blk.all w' (K4.out.up h))
  have FC := Lib.hid (fun w' (h : Lex.Up w4 w') {j : Nat} (hj : j < 5) => (K4.out.up h).at_ hj)
  have G := Lib.hid HX.out
  clear K4 HX
  obtain ⟨E1, E5, EK, EB, EF⟩ := Ev.edit_zero G.out.ed
  have HK := Lib.hid (Ev.key_size EK)
  have HF := Lib.hid EF
  clear EK EB EF
  obtain ⟨r, n, c, h, k, key, l, v⟩ := x
  simp only [Ev.ed] at E1 E5 HK HF
  have g1 := G.out.r0; have g2 := G.out.r5; have g3 := G.out.n1; have g4 := G.out.nM; have g5 := G.out.h1; have g6 := G.out.hM
  have HC := Lib.hid G.out.c
  simp only at g1 g2 g3 g4 g5 g6 HC
  obtain ⟨n, rfl⟩ : ∃ m : Nat, n = m := ⟨n.toNat, by omega⟩
  obtain ⟨h, rfl⟩ : ∃ m : Nat, h = m := ⟨h.toNat, by omega⟩
  have CN := Lib.hid (fun w => CG.out n (by omega) w)
  have CH := Lib.hid (fun w => CG.out h (by omega) w)
  have BY : Ev.bytes ⟨r, n, c, h, k, key, l, v⟩ = [k.toNat, r.toNat] ++ Pl.put n ++ Ev.others r c 5 ++ Pl.put h ++ Ev.txt key ++ Ev.tail ⟨r, n, c, h, k, key, l, v⟩ := rfl
  have LE : (Ev.bytes ⟨r, n, c, h, k, key, l, v⟩).length = 2 + (Pl.put n).length + (Pl.put h).length + 1 + key.size + (Ev.others r c 5).length + (Ev.tail ⟨r, n, c, h, k, key, l, v⟩).length := by
    rw [BY]; simp only [List.length_append, List.length_cons, List.length_nil, Ev.txt, Ev.raw_len]; omega
  have HB := Lib.hid BY
  have HL := Lib.hid LE
  clear BY LE
  have P1 := Pl.put_len n; have P2 := Pl.put_len h
  generalize (Pl.put n).length = L1 at *
  generalize (Pl.put h).length = L2 at *
  have hk1 := HK.out
  have q1 : IntKind.i64.wrap (2 + (L1 : Int)) = 2 + L1 := IntWalk.i64_in _ ⟨by omega, by omega⟩
  have q2 : IntKind.i64.wrap (2 + (L1 : Int) + L2) = 2 + L1 + L2 := IntWalk.i64_in _ ⟨by omega, by omega⟩
  have q3 : IntKind.i64.wrap (2 + (L1 : Int) + L2 + 1) = 2 + L1 + L2 + 1 := IntWalk.i64_in _ ⟨by omega, by omega⟩
  have q4 : IntKind.i64.wrap (2 + (L1 : Int) + L2 + 1 + key.size) = 2 + L1 + L2 + 1 + key.size := IntWalk.i64_in _ ⟨by omega, by omega⟩
  go_wp2
  refine Lex.wp_region_lex (by kernel_rfl) (by kernel_rfl) (by rfl) ?_
  repeat (first | (refine Lex.lex_skip (by rfl) (by rfl) (by rfl) ?_; simp only [Act.put, List.setIfInBounds_toArray, List.set_cons_zero, List.set_cons_succ]) | (refine Lex.lex_pure (c := ?_) (by rfl) (by rfl) (fun w' hC => ?_) (by rfl) ?_; rotate_left 1; (have ⟨k0, k1, k2, k3, k4, k5, k6, k7, k8, k9, k10, k11⟩ := FX.out w' hC; go_simp; rfl); simp only [Act.put, List.setIfInBounds_toArray, List.set_cons_zero, List.set_cons_succ]))
  refine Lex.lex_callv (f := 14) (args := #[.int .i64 (n : Int)]) (.int .i64 (L1 : Int)) (by rfl) (by rfl) (fun w' => by go_simp) (fun w' hC => CN.out w') (by rfl) ?_
  simp only [Act.put, List.setIfInBounds_toArray, List.set_cons_zero, List.set_cons_succ]
  repeat (first | (refine Lex.lex_skip (by rfl) (by rfl) (by rfl) ?_; simp only [Act.put, List.setIfInBounds_toArray, List.set_cons_zero, List.set_cons_succ]) | (refine Lex.lex_pure (c := ?_) (by rfl) (by rfl) (fun w' hC => ?_) (by rfl) ?_; rotate_left 1; (have ⟨k0, k1, k2, k3, k4, k5, k6, k7, k8, k9, k10, k11⟩ := FX.out w' hC; go_simp; rfl); simp only [Act.put, List.setIfInBounds_toArray, List.set_cons_zero, List.set_cons_succ]))
  refine Lex.lex_callv (f := 14) (args := #[.int .i64 (h : Int)]) (.int .i64 (L2 : Int)) (by rfl) (by rfl) (fun w' => by go_simp) (fun w' hC => CH.out w') (by rfl) ?_
  simp only [Act.put, List.setIfInBounds_toArray, List.set_cons_zero, List.set_cons_succ]
  repeat (first | (refine Lex.lex_skip (by rfl) (by rfl) (by rfl) ?_; simp only [Act.put, List.setIfInBounds_toArray, List.set_cons_zero, List.set_cons_succ]) | (refine Lex.lex_pure (c := ?_) (by rfl) (by rfl) (fun w' hC => ?_) (by rfl) ?_; rotate_left 1; (have ⟨k0, k1, k2, k3, k4, k5, k6, k7, k8, k9, k10, k11⟩ := FX.out w' hC; go_simp; rfl); simp only [Act.put, List.setIfInBounds_toArray, List.set_cons_zero, List.set_cons_succ]))
  refine Lex.lex_nil (fun w5 hC => ?_)
  simp only [Lex.fill]
  have U5 := Lib.hid hC
  obtain ⟨N0, hN⟩ : ∃ N0 : Nat, N0 = 2 + L1 + L2 + 1 + key.size := ⟨_, rfl⟩
  have hN' : (2 + (L1 : Int) + L2 + 1 + key.size) = (N0 : Int) := by omega
  rw [hN']
  rw [← hN] at HL
  have hN3 : N0 ≤ 33 := by omega
  clear hC hN hN' q1 q2 q3 q4 P1 P2 CN CH
  go_wp2
  go_loopw [7, 8] (fun v7 v8 wr => SizeRel w4 N0 r c v7 v8 wr) (fun _ v8 _ => 5 - (intOf v8).toNat)
  case atStart => exact ⟨0, 0, by omega, rfl, rfl, Lib.hid rfl, by omega, U5⟩
  case round =>
    obtain ⟨i, L, hi, rfl, rfl, KL, hL, KU⟩ := hrel
    clear U5
    by_cases h5 : i < 5
    · have h5' : (i : Int) < 5 := by omega
      have a0 := (FX.out wr KU.out).1
      have a1 := FC.out wr KU.out h5
      have HCi := HC.out i h5
      have HOT := Lib.hid (show Ev.others r c (i + 1) = Ev.others r c i ++ if (i : Int) = r then [] else Pl.put (c.get i).toNat from rfl)
      obtain ⟨m, hm⟩ : ∃ m : Nat, c.get i = m := ⟨(c.get i).toNat, by omega⟩
      rw [hm] at a1 HOT HCi
      clear hm
      by_cases hir : (i : Int) = r
      · have d0 : ((i : Int) == r) = true := by simpa using hir
        have d1 : ((i : Int) != r) = false := by simp [bne, d0]
        rw [if_pos hir] at HOT
        clear hir
        go_wp2
        go_roundw
        case rel => exact ⟨i + 1, L, by omega, by go_num, rfl, Lib.hid (by rw [HOT.out, List.append_nil]; exact KL.out), hL, KU⟩
        case measure => simp [intOf]; omega
      · have d0 : ((i : Int) == r) = false := by simpa using hir
        have d1 : ((i : Int) != r) = true := by simp [bne, d0]
        rw [if_neg hir] at HOT
        clear hir
        have PM := Pl.put_len m
        have OL := Ev.others_len r c i
        rw [← KL.out] at OL
        have CI := Lib.hid (CG.out m (by omega) wr)
        have HM := Lib.hid (show (Ev.others r c (i + 1)).length = L + (Pl.put m).length by rw [HOT.out, List.length_append, ← KL.out]; rfl)
        generalize (Pl.put m).length = M at *
        go_wp2_with fail
        refine CI.out.mono ?_
        rintro e w6 ⟨rfl, hb6⟩
        have U6 := Lib.hid (KU.out.trans hb6)
        clear a0 a1 hb6 CI
        go_wp2
        go_roundw
        case rel => exact ⟨i + 1, L + M, by omega, by go_num, by go_num, Lib.hid HM.out.symm, by omega, U6⟩
        case measure => simp [intOf]; omega
    · obtain rfl : i = 5 := by omega
      clear hi h5
      obtain ⟨k0, k1, k2, k3, k4, k5, k6, k7, k8, k9, k10, k11⟩ := FX.out wr KU.out
      have h44 : (Ev.bytes ⟨r, n, c, h, k, key, l, v⟩).length ≤ 44 := BL
      obtain ⟨N, hN⟩ : ∃ N : Nat, (Ev.bytes ⟨r, n, c, h, k, key, l, v⟩).length = N := ⟨_, rfl⟩
      have HL2 := HL.out
      rw [hN, ← KL.out] at HL2
      have U8 := Lib.hid (U4.out.trans (KU.out.mono U4.out.size))
      have S8 := Lib.hid (SB.out.below KU.out)
      rw [hN] at S8
      rw [hN] at h44 ⊢
      have hb := HB.out
      obtain ⟨bs, hbs⟩ : ∃ bs, Ev.bytes ⟨r, n, c, h, k, key, l, v⟩ = bs := ⟨_, rfl⟩
      rw [hbs] at hb S8 hN
      have hb2 : Pl.nth bs 0 = k.toNat ∧ Pl.nth bs 1 = r.toNat ∧ 2 ≤ bs.length := by
        rw [hb]
        refine ⟨rfl, rfl, ?_⟩
        simp only [List.length_append, List.length_cons, List.length_nil]; omega
      obtain ⟨sl, sc, sm, slt, scell⟩ := S8.out
      obtain ⟨bb, off, rfl, hbb, hcl⟩ := scell (by omega)
      have c0 := hcl 0 (by omega)
      have c1 := hcl 1 (by omega)
      rw [hb2.1] at c0
      rw [hb2.2.1] at c1
      unfold bv at c0 c1
      rw [Int.toNat_of_nonneg (show 0 ≤ k by omega)] at c0
      rw [Int.toNat_of_nonneg g1] at c1
      have wk : IntKind.i64.wrap k = k := IntWalk.i64_in _ ⟨by omega, by omega⟩
      have wr' : IntKind.i64.wrap r = r := IntWalk.i64_in _ ⟨by omega, by omega⟩
      have hN0 : 0 < N := by omega
      have hN1 : 1 < N := by omega
      have hN2 : (1 : Int) < N := by omega
      have FZ := Lib.hid (show ∀ w', Lex.Up wr w' → w'.cell? ⟨bb, off, none⟩ = some (.int .u8 k) ∧ w'.cell? ⟨bb, off + 1, none⟩ = some (.int .u8 r) from fun w' hu => ⟨(hu.cell (p := ⟨bb, off, none⟩) hbb).trans c0, (hu.cell (p := ⟨bb, off + 1, none⟩) hbb).trans c1⟩)
      have FW := Lib.hid (show ∀ w', Lex.Up wr w' → w'.cell? ⟨w2.heap.size, 0, none⟩ = some (.int .i64 r) ∧ w'.cell? ⟨w2.heap.size, 8, none⟩ = some (.int .i64 k) from fun w' hu => ⟨(FX.out w' (KU.out.trans hu)).1, (FX.out w' (KU.out.trans hu)).2.2.2.2.2.2.2.2.1⟩)
      have HT := Lib.hid (show Ev.tail ⟨r, n, c, h, k, key, l, v⟩ = if Ev.isW k then l.toNat :: Ev.txt v else [] from rfl)
      clear sl sc sm slt scell hcl c0 c1 hb hbs hN hb2 HB HL FX FC S8 SB HK HC G KL
      cases hw : Ev.isW k
      · have hw2 := Ev.isW_false k hw
        have ht := HT.out
        rw [hw, if_neg (by decide)] at ht
        rw [ht] at HL2
        simp only [List.length_nil] at HL2
        have d1 : decide (2 < k) = false := by simp; omega
        have hE : N0 + L = N := by omega
        clear ht HT hw hw2 HL2 HF
        go_wp2
        try rw [hE]
        clear hE
        clear k0 k1 k2 k3 k4 k5 k6 k7 k8 k9 k10 k11
        refine Lex.wp_region_lex (by kernel_rfl) (by kernel_rfl) (by rfl) ?_
        repeat (first | (refine Lex.lex_skip (by rfl) (by rfl) (by rfl) ?_; simp only [Act.put, List.setIfInBounds_toArray, List.set_cons_zero, List.set_cons_succ]) | (refine Lex.lex_pure (c := ?_) (by rfl) (by rfl) (fun w' hC => ?_) (by rfl) ?_; rotate_left 1; (have ⟨a0, a8⟩ := FW.out w' hC; have ⟨z0, z1⟩ := FZ.out w' hC; go_simp; rfl); simp only [Act.put, List.setIfInBounds_toArray, List.set_cons_zero, List.set_cons_succ]))
        refine Lex.lex_nil (fun w9 hC => ?_)
        simp only [Lex.fill]
        have U9 := Lib.hid (U8.out.trans (hC.mono U8.out.size))
        clear hC
        go_wp2
        go_ret
        exact ⟨rfl, U9.out⟩
      · have hw2 := Ev.isW_true k hw
        have hf := HF.out hw2
        have ht := HT.out
        rw [hw, if_pos rfl] at ht
        rw [ht] at HL2
        simp only [List.length_cons, Ev.txt, Ev.raw_len] at HL2
        have d1 : decide (2 < k) = true := by simp; omega
        obtain ⟨vz, hvz⟩ : ∃ vz : Nat, v.size = vz := ⟨_, rfl⟩
        have hv12 : vz ≤ 12 := by omega
        rw [hvz] at HL2
        have hE : ((N0 : Int) + L + 2 + vz) = (N : Int) := by omega
        clear ht HT hw hw2 HL2 HF hf
        go_wp2
        try rw [hE]
        clear hE
        clear k0 k1 k2 k3 k4 k5 k6 k7 k8 k9 k10 k11
        refine Lex.wp_region_lex (by kernel_rfl) (by kernel_rfl) (by rfl) ?_
        repeat (first | (refine Lex.lex_skip (by rfl) (by rfl) (by rfl) ?_; simp only [Act.put, List.setIfInBounds_toArray, List.set_cons_zero, List.set_cons_succ]) | (refine Lex.lex_pure (c := ?_) (by rfl) (by rfl) (fun w' hC => ?_) (by rfl) ?_; rotate_left 1; (have ⟨a0, a8⟩ := FW.out w' hC; have ⟨z0, z1⟩ := FZ.out w' hC; go_simp; rfl); simp only [Act.put, List.setIfInBounds_toArray, List.set_cons_zero, List.set_cons_succ]))
        refine Lex.lex_nil (fun w9 hC => ?_)
        simp only [Lex.fill]
        have U9 := Lib.hid (U8.out.trans (hC.mono U8.out.size))
        clear hC
        go_wp2
        go_ret
        exact ⟨rfl, U9.out⟩
end Go.Proofs.Ytilfpcchjkfkhaa
