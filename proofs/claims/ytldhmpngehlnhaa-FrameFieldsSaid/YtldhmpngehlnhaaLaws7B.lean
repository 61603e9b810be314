/-
  The walk of FrameFields.
-/
import Derived.Test.YtldhmpngehlnhaaLaws7A
import Derived.Test.YtldhmpngehlnhaaFrC
namespace Go.Proofs.Ytldhmpngehlnhaa
open Go.RowKit
set_option maxRecDepth 100000

theorem Fr.bad_iff {f : Fr} (h : ¬ Fr.Good f) : Fr.may f = false := by rw [← Bool.not_eq_true, Fr.may_iff]; exact h
theorem Fr.bad_u {f : Fr} (g : Fr.Good f) : Fr.may (f.keep 2 1048577) = false := Fr.bad_iff fun h => by
  rcases g.k with k | k | k | k | k
  · have := (h.ev (.inl k)).1; simp [Fr.keep] at this
  · have := (h.up k).2.1; simp [Fr.keep] at this
  · have := (h.ck (.inl k)).1; simp [Fr.keep] at this
  · have := (h.ev (.inr k)).1; simp [Fr.keep] at this
  · have := (h.ck (.inr k)).1; simp [Fr.keep] at this
theorem Fr.bad_c {f : Fr} (g : Fr.Good f) {j : Nat} (hj : j < 5) : Fr.may (f.keep (3 + j) 1048577) = false := Fr.bad_iff fun h => by
  have e : (f.keep (3 + j) 1048577).c = f.c.set j 1048577 := by unfold Fr.keep; rw [if_neg (by omega)]; simp
  have ek : (f.keep (3 + j) 1048577).k = f.k := by unfold Fr.keep; split <;> rfl
  have e2 : (f.c.set j 1048577).get j = 1048577 := by rw [Ck.get_set' _ _ _ _ hj, if_pos rfl]
  have e3 : Ck.zero.get j = 0 := by
    match j, hj with
    | 0, _ | 1, _ | 2, _ | 3, _ | 4, _ => rfl
  have hz : (f.c.set j 1048577) ≠ Ck.zero := fun h1 => by rw [h1, e3] at e2; omega
  rcases g.k with k | k | k | k | k
  all_goals have k' := ek.trans k
  · exact hz (e ▸ (h.ev (.inl k')).2.1)
  · exact hz (e ▸ (h.up k').2.2.1)
  · have := (h.ck (.inl k')).2.1 j hj; rw [e, e2] at this; omega
  · exact hz (e ▸ (h.ev (.inr k')).2.1)
  · have := (h.ck (.inr k')).2.1 j hj; rw [e, e2] at this; omega
theorem Fr.bad_r (f : Fr) : Fr.may { f with r := 5 } = false := Fr.bad_iff fun h => by have := h.r5; simp at this
theorem Fr.bad_k (f : Fr) {x : Int} (hx : x = 6 ∨ x = 0) : Fr.may { f with k := x } = false := Fr.bad_iff fun h => by have := h.k; simp only at this; omega
theorem Fr.bad_e {f : Fr} (g : Fr.Good f) : Fr.may { f with es := f.es ++ [Ev.zero] } = false := Fr.bad_iff fun h => by
  have hz : ¬ Ev.Good Ev.zero := fun h => by have := h.n1; simp [Ev.zero] at this
  rcases g.k with k | k | k | k | k
  · exact hz ((h.ev (.inl k)).2.2.2 _ (by simp))
  · have := (h.up k).2.2.2; simp at this
  · have := (h.ck (.inl k)).2.2; simp at this
  · exact hz ((h.ev (.inr k)).2.2.2 _ (by simp))
  · have := (h.ck (.inr k)).2.2; simp at this
theorem Fr.es_len {f : Fr} (g : Fr.Good f) : f.es.length ≤ 20 := by
  rcases g.k with k | k | k | k | k
  · exact (g.ev (.inl k)).2.2.1
  · rw [(g.up k).2.2.2]; simp
  · rw [(g.ck (.inl k)).2.2]; simp
  · exact (g.ev (.inr k)).2.2.1
  · rw [(g.ck (.inr k)).2.2]; simp
theorem zer_take : Fr.takeF (List.replicate 2049 0) = (Fr.zero, 5) := by
  unfold Fr.takeF
  rw [List.length_replicate, if_pos (by omega)]
theorem zer_slc (W : World) : Slc (W.alloc (.cells (zer 2049) 5)) (some ⟨W.heap.size, 0, none⟩) 2049 2049 (List.replicate 2049 0) := by
  have h := slc_new (w := W.alloc (.cells (zer 2049) 5)) (g := W.heap.size) (t := 5) (fr := (0, 0)) (List.replicate 2049 0) (heap_alloc_new _ _) (fun x hx => by rw [List.eq_of_mem_replicate hx]; omega) (by rw [List.length_replicate]; omega)
  rw [List.length_replicate] at h
  exact h

set_option maxHeartbeats 4000000 in
theorem law_fields (f : Fr) (A : Option Addr) (n cap : Nat) (m : Nat) (w : World) (h : EvSl w A n cap f.es) (hs : ∀ e ∈ f.es, e.key.size ≤ 140737488351232 ∧ e.v.size ≤ 140737488351232) (hm : m < 256) :
    Calls Try.prog 6 #[f.val (.slice A n cap), .int .u8 m] w fun e w' => e = .returned (.bool true) ∧ Below w.heap.size w w' := by
  have C0 := Lib.hid (fun w => shown_any w)
  have CF := Lib.hid (fun w h => fit7_any f A n cap w h hs)
  have CP := Lib.hid (fun f A n cap w h => frput_any f A n cap w h)
  have CT := Lib.hid (fun A n cap xs w h => frtake_any A n cap xs w h)
  have KA := Lib.hid (Blk.new w (f.cells (.slice A n cap)) 26)
  have U0 := Lib.hid (show Lex.Up w (w.alloc (.cells (f.cells (.slice A n cap)) 26)) from up_blk (Lex.Up.refl w))
  have SL := Lib.hid (fun w' (hu : Lex.Up w w') => EvSl.up h hu)
  clear h hs
  unfold Fr.val at *
  go_enter Try.func6, Try.ntmps6
  go_wp2_with fail
  refine (C0.out _).mono ?_
  rintro e w1 ⟨rfl, hb1⟩
  have KA1 := Lib.hid (KA.out.up hb1); have U1 := Lib.hid (U0.out.trans hb1)
  clear KA U0 hb1 C0
  obtain ⟨k0, k1, k2, k3, k4, k5, k6, k7, k8⟩ := KA1.out.fr
  go_wp2_with fail
  refine (CF.out _ (SL.out _ U1.out)).mono ?_
  rintro e w2 ⟨x, A9, cap9, hx, rfl, hs2, hb2⟩
  have KX := Lib.hid (Blk.new w2 (x.cells (.slice A9 x.es.length cap9)) 26)
  have S2 := Lib.hid hs2
  have Zw' : w.heap.size ≤ w2.heap.size := (U1.out.trans hb2).size
  have VX := Lib.hid (show Lex.Up w2 (w2.alloc (.cells (x.cells (.slice A9 x.es.length cap9)) 26)) from up_blk (Lex.Up.refl w2))
  have UX := Lib.hid (show Lex.Up w (w2.alloc (.cells (x.cells (.slice A9 x.es.length cap9)) 26)) from up_blk (U1.out.trans hb2))
  have SX := Lib.hid (hs2.up (up_blk (cs := x.cells (.slice A9 x.es.length cap9)) (t := 26) (Lex.Up.refl w2)))
  have G := Lib.hid hx
  clear k0 k1 k2 k3 k4 k5 k6 k7 k8 KA1 U1 hb2 CF SL hx hs2
  unfold Fr.val
  go_upto_region 3 with (fail)
  refine wp_named (fun W hW => ?_)
  have hW' : W = w2.alloc (.cells (x.cells (.slice A9 x.es.length cap9)) 26) := hW
  rw [← hW'] at KX UX SX VX
  clear hW hW'
  obtain ⟨b6, hb6⟩ : ∃ b6, b6 = w2.heap.size := ⟨_, rfl⟩
  rw [← hb6] at KX ⊢
  have Zb : w2.heap.size ≤ b6 := Nat.le_of_eq hb6.symm
  have Zw : w.heap.size ≤ b6 := Nat.le_trans Zw' Zb
  clear hb6 Zw'
  obtain ⟨k0, k1, k2, k3, k4, k5, k6, k7, k8⟩ := KX.out.fr
  have hmay := (Fr.may_iff x).2 G.out
  have hlen := (Fr.bytes_len G.out).1
  have hlt := Fr.bytes_lt G.out
  have CX := Lib.hid (CP.out x A9 _ cap9 _ SX.out)
  rw [hmay, if_pos rfl, Fr.out_good G.out] at CX
  go_wp2_with fail
  clear k0 k1 k2 k3 k4 k5 k6 k7 k8
  refine CX.out.mono ?_
  rintro e w3 ⟨v, rfl, hown, hb3⟩
  obtain ⟨A3, cap3, rfl, -⟩ := slc_of_own2 hown hlt
  have K3 := Lib.hid (KX.out.up hb3)
  have U3 := Lib.hid (UX.out.trans hb3)
  have V3 := Lib.hid (VX.out.trans hb3)
  clear hown hb3 CX KX UX SX VX hmay hlt
  generalize (Fr.bytes x).length = N at *
  have hN : ((N : Int) == 0) = false := by simp; omega
  have hr : (m : Int).tmod 6 = ((m % 6 : Nat) : Int) := by rw [Int.tmod_eq_emod_of_nonneg (by omega)]; omega
  obtain ⟨j, hj, hj5⟩ : ∃ j : Nat, (m : Int).tmod 5 = j ∧ j < 5 := ⟨m % 5, by rw [Int.tmod_eq_emod_of_nonneg (by omega)]; omega, Nat.mod_lt _ (by decide)⟩
  have h6 : m % 6 < 6 := Nat.mod_lt _ (by decide)
  generalize m % 6 = t at *
  have h9 : t = 0 ∨ t = 1 ∨ t = 2 ∨ t = 3 ∨ t = 4 ∨ t = 5 := by omega
  have Z6 : b6 < w3.heap.size := K3.out.lt
  obtain ⟨k0, k1, k2, k3, k4, k5, k6, k7, k8⟩ := K3.out.fr
  clear h6
  go_upto_region 6 with (fail)
  rcases h9 with rfl | rfl | rfl | rfl | rfl | rfl
  · have g2 := K3.out.frozen 2
    go_upto_region 18 with (fail)
    clear j hj hj5
    refine wp_named (fun W5 hW5 => ?_)
    have KW := Lib.hid (show Blk W5 b6 ((Fr.keep x 2 1048577).cells (.slice A9 x.es.length cap9)) 26 by rw [hW5]; exact K3.out.set 2 _)
    have UV := Lib.hid (show Lex.Up w2 W5 by rw [hW5]; exact Below.setCell V3.out (show w2.heap.size ≤ (⟨b6, 2, none⟩ : Addr).block from Zb) _)
    have UW := Lib.hid (show Lex.Up w W5 by rw [hW5]; exact Below.setCell U3.out (show w.heap.size ≤ (⟨b6, 2, none⟩ : Addr).block from Zw) _)
    have BD : Fr.may (Fr.keep x 2 1048577) = false := Fr.bad_u G.out
    have SW := Lib.hid (show EvSl W5 A9 x.es.length cap9 (Fr.keep x 2 1048577).es from by first | exact S2.out.up UV.out | (rw [Fr.keep_es]; exact S2.out.up UV.out))
    clear hW5 K3 V3 U3 S2 UV Z6 Zb Zw k0 k1 k2 k3 k4 k5 k6 k7 k8
    generalize hg : Fr.keep x 2 1048577 = g at *
    clear hg
    have CX := Lib.hid (CP.out g _ _ _ W5 SW.out)
    rw [BD, Fr.out_bad BD, if_neg (by simp)] at CX
    obtain ⟨q0, q1, q2, q3, q4, q5, q6, q7, q8⟩ := KW.out.fr
    go_wp2_with fail
    clear q0 q1 q2 q3 q4 q5 q6 q7 q8
    refine CX.out.mono ?_
    rintro e w6 ⟨v6, rfl, hown6, hb6⟩
    obtain ⟨A6, cap6, rfl, -⟩ := slc_of_own2 hown6 (fun x hx => by cases hx)
    have U6 := Lib.hid (UW.out.trans hb6)
    clear hown6 hb6 CX CP G
    have hmk : ∀ W, (Instr.makeSlice 27 (.int .i64 2049) (.int .i64 2049)).run Try.prog W = .ok (.slice (some ⟨W.heap.size, 0, none⟩) 2049 2049) (W.alloc (.cells (zer 2049) 5)) := fun W => run_make_zer W 2049 (by omega)
    have CZ := Lib.hid (CT.out _ 2049 2049 _ _ (zer_slc w6))
    rw [zer_take] at CZ
    have U7 := Lib.hid (up_blk (cs := zer 2049) (t := 5) U6.out)
    generalize zer 2049 = Z at *
    go_wp2_with fail
    refine CZ.out.mono ?_
    rintro e w8 ⟨A8, cap8, rfl, ho8, hb8⟩
    have U8 := Lib.hid (U7.out.trans hb8)
    clear ho8 hb8 CZ hmk
    simp only [Fr.val]
    have U9 := Lib.hid (up_blk (cs := Fr.zero.cells (.slice A8 Fr.zero.es.length cap8)) (t := 26) U8.out)
    go_wp2
    go_ret
    exact ⟨rfl, U9.out⟩
  · obtain ⟨old, ho⟩ : ∃ old, w3.cell? ⟨b6, 3 + j, none⟩ = some old := ⟨_, K3.out.frClk hj5⟩
    have g3 := K3.out.frozen (3 + j)
    have hj5' : (j : Int) < 5 := by omega
    have KC := x.keep_cells (.slice A9 x.es.length cap9) (p := 3 + j) (by omega) (by omega) 1048577
    go_upto_region 18 with (fail)
    clear hj
    refine wp_named (fun W5 hW5 => ?_)
    have KW := Lib.hid (show Blk W5 b6 ((Fr.keep x (3 + j) 1048577).cells (.slice A9 x.es.length cap9)) 26 by rw [hW5]; exact (by rw [← KC]; exact K3.out.set (3 + j) _))
    have UV := Lib.hid (show Lex.Up w2 W5 by rw [hW5]; exact Below.setCell V3.out (show w2.heap.size ≤ (⟨b6, 3 + j, none⟩ : Addr).block from Zb) _)
    have UW := Lib.hid (show Lex.Up w W5 by rw [hW5]; exact Below.setCell U3.out (show w.heap.size ≤ (⟨b6, 3 + j, none⟩ : Addr).block from Zw) _)
    have BD : Fr.may (Fr.keep x (3 + j) 1048577) = false := Fr.bad_c G.out hj5
    have SW := Lib.hid (show EvSl W5 A9 x.es.length cap9 (Fr.keep x (3 + j) 1048577).es from by first | exact S2.out.up UV.out | (rw [Fr.keep_es]; exact S2.out.up UV.out))
    clear hW5 K3 V3 U3 S2 UV Z6 Zb Zw k0 k1 k2 k3 k4 k5 k6 k7 k8
    generalize hg : Fr.keep x (3 + j) 1048577 = g at *
    clear hg
    have CX := Lib.hid (CP.out g _ _ _ W5 SW.out)
    rw [BD, Fr.out_bad BD, if_neg (by simp)] at CX
    obtain ⟨q0, q1, q2, q3, q4, q5, q6, q7, q8⟩ := KW.out.fr
    go_wp2_with fail
    clear q0 q1 q2 q3 q4 q5 q6 q7 q8
    refine CX.out.mono ?_
    rintro e w6 ⟨v6, rfl, hown6, hb6⟩
    obtain ⟨A6, cap6, rfl, -⟩ := slc_of_own2 hown6 (fun x hx => by cases hx)
    have U6 := Lib.hid (UW.out.trans hb6)
    clear hown6 hb6 CX CP G
    have hmk : ∀ W, (Instr.makeSlice 27 (.int .i64 2049) (.int .i64 2049)).run Try.prog W = .ok (.slice (some ⟨W.heap.size, 0, none⟩) 2049 2049) (W.alloc (.cells (zer 2049) 5)) := fun W => run_make_zer W 2049 (by omega)
    have CZ := Lib.hid (CT.out _ 2049 2049 _ _ (zer_slc w6))
    rw [zer_take] at CZ
    have U7 := Lib.hid (up_blk (cs := zer 2049) (t := 5) U6.out)
    generalize zer 2049 = Z at *
    go_wp2_with fail
    refine CZ.out.mono ?_
    rintro e w8 ⟨A8, cap8, rfl, ho8, hb8⟩
    have U8 := Lib.hid (U7.out.trans hb8)
    clear ho8 hb8 CZ hmk
    simp only [Fr.val]
    have U9 := Lib.hid (up_blk (cs := Fr.zero.cells (.slice A8 Fr.zero.es.length cap8)) (t := 26) U8.out)
    go_wp2
    go_ret
    exact ⟨rfl, U9.out⟩
  · have g2 := K3.out.frozen 1
    go_upto_region 18 with (fail)
    clear j hj hj5
    refine wp_named (fun W5 hW5 => ?_)
    have KW := Lib.hid (show Blk W5 b6 (({ x with r := 5 }).cells (.slice A9 x.es.length cap9)) 26 by rw [hW5]; exact K3.out.set 1 _)
    have UV := Lib.hid (show Lex.Up w2 W5 by rw [hW5]; exact Below.setCell V3.out (show w2.heap.size ≤ (⟨b6, 1, none⟩ : Addr).block from Zb) _)
    have UW := Lib.hid (show Lex.Up w W5 by rw [hW5]; exact Below.setCell U3.out (show w.heap.size ≤ (⟨b6, 1, none⟩ : Addr).block from Zw) _)
    have BD : Fr.may ({ x with r := 5 }) = false := Fr.bad_r x
    have SW := Lib.hid (show EvSl W5 A9 x.es.length cap9 ({ x with r := 5 }).es from by first | exact S2.out.up UV.out | (rw [Fr.keep_es]; exact S2.out.up UV.out))
    clear hW5 K3 V3 U3 S2 UV Z6 Zb Zw k0 k1 k2 k3 k4 k5 k6 k7 k8
    generalize hg : { x with r := 5 } = g at *
    clear hg
    have CX := Lib.hid (CP.out g _ _ _ W5 SW.out)
    rw [BD, Fr.out_bad BD, if_neg (by simp)] at CX
    obtain ⟨q0, q1, q2, q3, q4, q5, q6, q7, q8⟩ := KW.out.fr
    go_wp2_with fail
    clear q0 q1 q2 q3 q4 q5 q6 q7 q8
    refine CX.out.mono ?_
    rintro e w6 ⟨v6, rfl, hown6, hb6⟩
    obtain ⟨A6, cap6, rfl, -⟩ := slc_of_own2 hown6 (fun x hx => by cases hx)
    have U6 := Lib.hid (UW.out.trans hb6)
    clear hown6 hb6 CX CP G
    have hmk : ∀ W, (Instr.makeSlice 27 (.int .i64 2049) (.int .i64 2049)).run Try.prog W = .ok (.slice (some ⟨W.heap.size, 0, none⟩) 2049 2049) (W.alloc (.cells (zer 2049) 5)) := fun W => run_make_zer W 2049 (by omega)
    have CZ := Lib.hid (CT.out _ 2049 2049 _ _ (zer_slc w6))
    rw [zer_take] at CZ
    have U7 := Lib.hid (up_blk (cs := zer 2049) (t := 5) U6.out)
    generalize zer 2049 = Z at *
    go_wp2_with fail
    refine CZ.out.mono ?_
    rintro e w8 ⟨A8, cap8, rfl, ho8, hb8⟩
    have U8 := Lib.hid (U7.out.trans hb8)
    clear ho8 hb8 CZ hmk
    simp only [Fr.val]
    have U9 := Lib.hid (up_blk (cs := Fr.zero.cells (.slice A8 Fr.zero.es.length cap8)) (t := 26) U8.out)
    go_wp2
    go_ret
    exact ⟨rfl, U9.out⟩
  · have g2 := K3.out.frozen 0
    go_upto_region 18 with (fail)
    clear j hj hj5
    refine wp_named (fun W5 hW5 => ?_)
    have KW := Lib.hid (show Blk W5 b6 (({ x with k := 6 }).cells (.slice A9 x.es.length cap9)) 26 by rw [hW5]; exact K3.out.set 0 _)
    have UV := Lib.hid (show Lex.Up w2 W5 by rw [hW5]; exact Below.setCell V3.out (show w2.heap.size ≤ (⟨b6, 0, none⟩ : Addr).block from Zb) _)
    have UW := Lib.hid (show Lex.Up w W5 by rw [hW5]; exact Below.setCell U3.out (show w.heap.size ≤ (⟨b6, 0, none⟩ : Addr).block from Zw) _)
    have BD : Fr.may ({ x with k := 6 }) = false := Fr.bad_k x (.inl rfl)
    have SW := Lib.hid (show EvSl W5 A9 x.es.length cap9 ({ x with k := 6 }).es from by first | exact S2.out.up UV.out | (rw [Fr.keep_es]; exact S2.out.up UV.out))
    clear hW5 K3 V3 U3 S2 UV Z6 Zb Zw k0 k1 k2 k3 k4 k5 k6 k7 k8
    generalize hg : { x with k := 6 } = g at *
    clear hg
    have CX := Lib.hid (CP.out g _ _ _ W5 SW.out)
    rw [BD, Fr.out_bad BD, if_neg (by simp)] at CX
    obtain ⟨q0, q1, q2, q3, q4, q5, q6, q7, q8⟩ := KW.out.fr
    go_wp2_with fail
    clear q0 q1 q2 q3 q4 q5 q6 q7 q8
    refine CX.out.mono ?_
    rintro e w6 ⟨v6, rfl, hown6, hb6⟩
    obtain ⟨A6, cap6, rfl, -⟩ := slc_of_own2 hown6 (fun x hx => by cases hx)
    have U6 := Lib.hid (UW.out.trans hb6)
    clear hown6 hb6 CX CP G
    have hmk : ∀ W, (Instr.makeSlice 27 (.int .i64 2049) (.int .i64 2049)).run Try.prog W = .ok (.slice (some ⟨W.heap.size, 0, none⟩) 2049 2049) (W.alloc (.cells (zer 2049) 5)) := fun W => run_make_zer W 2049 (by omega)
    have CZ := Lib.hid (CT.out _ 2049 2049 _ _ (zer_slc w6))
    rw [zer_take] at CZ
    have U7 := Lib.hid (up_blk (cs := zer 2049) (t := 5) U6.out)
    generalize zer 2049 = Z at *
    go_wp2_with fail
    refine CZ.out.mono ?_
    rintro e w8 ⟨A8, cap8, rfl, ho8, hb8⟩
    have U8 := Lib.hid (U7.out.trans hb8)
    clear ho8 hb8 CZ hmk
    simp only [Fr.val]
    have U9 := Lib.hid (up_blk (cs := Fr.zero.cells (.slice A8 Fr.zero.es.length cap8)) (t := 26) U8.out)
    go_wp2
    go_ret
    exact ⟨rfl, U9.out⟩
  · have L20 := Fr.es_len G.out
    have Z3 : w2.heap.size ≤ w3.heap.size := V3.out.size
    have BD := Fr.bad_e G.out
    clear j hj hj5
    have S3 := Lib.hid ((S2.out.up V3.out).up (up_blk (cs := #[]) (t := 41) (Lex.Up.refl w3)))
    have O3 := Lib.hid (World.ownsRow_made (base := w3.heap.size) (e := 41) (size := 12) w3 #[] 0 (Nat.le_refl _) (Nat.zero_le _) rfl)
    have K4 := Lib.hid (K3.out.alloc (.cells #[] 41))
    have V4 := Lib.hid (up_blk (cs := #[]) (t := 41) V3.out)
    have U4 := Lib.hid (up_blk (cs := #[]) (t := 41) U3.out)
    have Q4 := Lib.hid (up_blk (cs := #[]) (t := 41) (Lex.Up.refl w3))
    go_upto_region 17 with (fail)
    go_wp2_with (at_builtin; refine ES12.wpList_append (by rfl) _ _ rfl w3.heap.size _ 0 [] rfl O3.out A9 x.es.length cap9 (evc x.es) rfl S3.out (evc_one' _) (by omega) (by simp only [maxLen]; omega) (by simp) ?_)
    intro v5 w5 hown5 hg5
    have O5 := Lib.hid (show OwnE w5 w3.heap.size v5 x.es by unfold OwnE; simpa using hown5)
    have Q5 := Lib.hid (show Lex.Up w3 w5 from Below.grown Q4.out hg5 (by simp) (fun k hk => by simp [Value.ownBlock] at hk; omega))
    clear hown5 hg5 S3 O3 K4 V4 U4 Q4
    obtain ⟨A5, cap5, rfl, -⟩ := O5.out.sl
    have O6 := Lib.hid (O5.out.up (up_blk (cs := Ev.zero.cells) (t := 41) (Lex.Up.refl w5)))
    have S6 := Lib.hid (show Sl (w5.alloc (.cells Ev.zero.cells 41)) 12 (some ⟨w5.heap.size, 0, none⟩) 1 1 (evc [Ev.zero]) from Sl.of_blk (by rw [evc_one]; exact Blk.new w5 Ev.zero.cells 41) (by rw [evc_len]; rfl) (by decide))
    have Q6 := Lib.hid (up_blk (cs := Ev.zero.cells) (t := 41) Q5.out)
    have Z6' : w3.heap.size ≤ (w5.alloc (.cells Ev.zero.cells 41)).heap.size := Q6.out.size
    have OB := Lib.hid O5.out.base
    go_wp2_with (at_builtin; refine ES12.wpList_append (by rfl) _ _ rfl w3.heap.size _ x.es.length (evc x.es) rfl O6.out (some ⟨w5.heap.size, 0, none⟩) 1 1 (evc [Ev.zero]) rfl S6.out (evc_one' _) (by omega) (by simp only [maxLen]; omega) Z6' ?_)
    intro v7 w7 hown7 hg7
    have O7 : OwnE w7 w3.heap.size v7 (x.es ++ [Ev.zero]) := by unfold OwnE; rw [evc_append, List.length_append]; exact hown7
    have Q7 := Lib.hid (show Lex.Up w3 w7 from Below.grown Q6.out hg7 Z6' OB.out)
    obtain ⟨A7, cap7, q7, S7⟩ := O7.sl
    have el : (x.es ++ [Ev.zero]).length = x.es.length + 1 := by simp
    rw [el] at q7
    subst q7
    have SS := Lib.hid S7
    have OO := Lib.hid O7
    have K7 := Lib.hid (K3.out.up Q7.out)
    have V7 := Lib.hid (V3.out.trans Q7.out)
    have U7 := Lib.hid (U3.out.trans Q7.out)
    have c8 : w7.cell? ⟨b6, 8, none⟩ = some (.slice A9 x.es.length cap9) := K7.out.cell rfl
    have f8 := K7.out.frozen 8
    clear hown7 hg7 O5 O6 S6 Q5 Q6 Z6' OB O7 S7 S2
    go_upto_region 18 with (fail)
    refine wp_named (fun W5 hW5 => ?_)
    have KW := Lib.hid (show Blk W5 b6 (Fr.cells { x with es := x.es ++ [Ev.zero] } (.slice A7 (x.es.length + 1) cap7)) 26 by rw [hW5]; exact K7.out.set 8 _)
    have UW := Lib.hid (show Lex.Up w W5 by rw [hW5]; exact Below.setCell U7.out (show w.heap.size ≤ (⟨b6, 8, none⟩ : Addr).block from Zw) _)
    have SW := Lib.hid (show EvSl W5 A7 (x.es.length + 1) cap7 (Fr.mk x.k x.r x.u x.c (x.es ++ [Ev.zero])).es by rw [← el, hW5]; exact (OO.out.by_ (by_set w7 ⟨b6, 8, none⟩ _) Z6).sl_of.2)
    clear hW5 K3 V3 U3 K7 V7 U7 Z6 Zb Zw k0 k1 k2 k3 k4 k5 k6 k7 k8 c8 f8 SS OO Q7 el
    generalize hg : { x with es := x.es ++ [Ev.zero] } = g at *
    clear hg
    have CX := Lib.hid (CP.out g _ _ _ W5 SW.out)
    rw [BD, Fr.out_bad BD, if_neg (by simp)] at CX
    obtain ⟨q0, q1, q2, q3, q4, q5, q6, q7, q8⟩ := KW.out.fr
    go_wp2_with fail
    clear q0 q1 q2 q3 q4 q5 q6 q7 q8
    refine CX.out.mono ?_
    rintro e w6 ⟨v6, rfl, hown6, hb6⟩
    obtain ⟨A6, cap6, rfl, -⟩ := slc_of_own2 hown6 (fun x hx => by cases hx)
    have U6 := Lib.hid (UW.out.trans hb6)
    clear hown6 hb6 CX CP G
    have hmk : ∀ W, (Instr.makeSlice 27 (.int .i64 2049) (.int .i64 2049)).run Try.prog W = .ok (.slice (some ⟨W.heap.size, 0, none⟩) 2049 2049) (W.alloc (.cells (zer 2049) 5)) := fun W => run_make_zer W 2049 (by omega)
    have CZ := Lib.hid (CT.out _ 2049 2049 _ _ (zer_slc w6))
    rw [zer_take] at CZ
    have U7 := Lib.hid (up_blk (cs := zer 2049) (t := 5) U6.out)
    generalize zer 2049 = Z at *
    go_wp2_with fail
    refine CZ.out.mono ?_
    rintro e w8 ⟨A8, cap8, rfl, ho8, hb8⟩
    have U8 := Lib.hid (U7.out.trans hb8)
    clear ho8 hb8 CZ hmk
    simp only [Fr.val]
    have U9 := Lib.hid (up_blk (cs := Fr.zero.cells (.slice A8 Fr.zero.es.length cap8)) (t := 26) U8.out)
    go_wp2
    go_ret
    exact ⟨rfl, U9.out⟩
  · have g2 := K3.out.frozen 0
    go_upto_region 18 with (fail)
    clear j hj hj5
    refine wp_named (fun W5 hW5 => ?_)
    have KW := Lib.hid (show Blk W5 b6 (({ x with k := 0 }).cells (.slice A9 x.es.length cap9)) 26 by rw [hW5]; exact K3.out.set 0 _)
    have UV := Lib.hid (show Lex.Up w2 W5 by rw [hW5]; exact Below.setCell V3.out (show w2.heap.size ≤ (⟨b6, 0, none⟩ : Addr).block from Zb) _)
    have UW := Lib.hid (show Lex.Up w W5 by rw [hW5]; exact Below.setCell U3.out (show w.heap.size ≤ (⟨b6, 0, none⟩ : Addr).block from Zw) _)
    have BD : Fr.may ({ x with k := 0 }) = false := Fr.bad_k x (.inr rfl)
    have SW := Lib.hid (show EvSl W5 A9 x.es.length cap9 ({ x with k := 0 }).es from by first | exact S2.out.up UV.out | (rw [Fr.keep_es]; exact S2.out.up UV.out))
    clear hW5 K3 V3 U3 S2 UV Z6 Zb Zw k0 k1 k2 k3 k4 k5 k6 k7 k8
    generalize hg : { x with k := 0 } = g at *
    clear hg
    have CX := Lib.hid (CP.out g _ _ _ W5 SW.out)
    rw [BD, Fr.out_bad BD, if_neg (by simp)] at CX
    obtain ⟨q0, q1, q2, q3, q4, q5, q6, q7, q8⟩ := KW.out.fr
    go_wp2_with fail
    clear q0 q1 q2 q3 q4 q5 q6 q7 q8
    refine CX.out.mono ?_
    rintro e w6 ⟨v6, rfl, hown6, hb6⟩
    obtain ⟨A6, cap6, rfl, -⟩ := slc_of_own2 hown6 (fun x hx => by cases hx)
    have U6 := Lib.hid (UW.out.trans hb6)
    clear hown6 hb6 CX CP G
    have hmk : ∀ W, (Instr.makeSlice 27 (.int .i64 2049) (.int .i64 2049)).run Try.prog W = .ok (.slice (some ⟨W.heap.size, 0, none⟩) 2049 2049) (W.alloc (.cells (zer 2049) 5)) := fun W => run_make_zer W 2049 (by omega)
    have CZ := Lib.hid (CT.out _ 2049 2049 _ _ (zer_slc w6))
    rw [zer_take] at CZ
    have U7 := Lib.hid (up_blk (cs := zer 2049) (t := 5) U6.out)
    generalize zer 2049 = Z at *
    go_wp2_with fail
    refine CZ.out.mono ?_
    rintro e w8 ⟨A8, cap8, rfl, ho8, hb8⟩
    have U8 := Lib.hid (U7.out.trans hb8)
    clear ho8 hb8 CZ hmk
    simp only [Fr.val]
    have U9 := Lib.hid (up_blk (cs := Fr.zero.cells (.slice A8 Fr.zero.es.length cap8)) (t := 26) U8.out)
    go_wp2
    go_ret
    exact ⟨rfl, U9.out⟩
end Go.Proofs.Ytldhmpngehlnhaa
