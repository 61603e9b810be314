/-
  The reference of frames: its walk of Put.
-/
import Derived.Test.YthgfbnkggdlokaaRfA
import Derived.Test.YthgfbnkggdlokaaFrC
namespace Go.Proofs.Ythgfbnkggdlokaa
open Go.RowKit
set_option maxRecDepth 100000

def RCkRel (B b : Nat) (W : World) (f : Fr) (s : Value) (v4 v5 : Value) (wr : World) : Prop :=
  ∃ (i : Nat) (xs : List Nat), i ≤ 5 ∧ v5 = .int .i64 i ∧ Hid (xs = [f.k.toNat, f.r.toNat] ++ Fr.cks f.c i) ∧ Hid (wr.ownsRow B 5 1 v4 xs.length (xs.map bv)) ∧ Hid (Blk wr b (f.cells s) 26) ∧ Hid (Below B W wr)
def REsRel (B b : Nat) (W : World) (n : Nat) (f : Fr) (s : Value) (v4 v6 : Value) (wr : World) : Prop :=
  ∃ (i : Nat) (xs : List Nat), i ≤ n ∧ v6 = .int .i64 i ∧ Hid (xs = [f.k.toNat, f.r.toNat] ++ (n :: Fr.evs (f.es.take i))) ∧ Hid (wr.ownsRow B 5 1 v4 xs.length (xs.map bv)) ∧ Hid (Blk wr b (f.cells s) 26) ∧ Hid (Below B W wr)



set_option maxHeartbeats 8000000 in
theorem rput7_any (f : Fr) (A : Option Addr) (n cap : Nat) (w : World) (h : EvSl w A n cap f.es) :
    Calls Try.prog 14 #[f.val (.slice A n cap)] w fun x w' => ∃ v, x = .returned (.tuple #[v, .int .i64 (if Fr.may f then 0 else 1)]) ∧ w'.ownsRow w.heap.size 5 1 v (Fr.out f).length ((Fr.out f).map bv) ∧ Below w.heap.size w w' := by
  have CM := Lib.hid (fun w h => rmay7_any f A n cap w h)
  have CP := Lib.hid (fun m w h => rput_any m w h)
  have CE := Lib.hid (fun e w => rput6_any e w)
  have CS := Lib.hid (fun A n cap xs w h hn => rseal_any A n cap xs w h hn)
  have U0 := Lib.hid (show Lex.Up w (w.alloc (.cells (f.cells (.slice A n cap)) 26)) from up_blk (Lex.Up.refl w))
  have KA := Lib.hid (Blk.new w (f.cells (.slice A n cap)) 26)
  have SL := Lib.hid (fun w' (hu : Lex.Up w w') => EvSl.up h hu)
  have NL := Lib.hid h.len
  have AD := Lib.hid h.addr
  have HO := Lib.hid (show Fr.out f = if Fr.may f = true then Fr.bytes f else [] from rfl)
  have HG := Lib.hid (show Fr.may f = true → Fr.Good f from (Fr.may_iff f).1)
  clear h
  unfold Ev.val at CE
  generalize hz : Fr.may f = z at *
  clear hz
  unfold Fr.val at *
  go_enter Try.func14, Try.ntmps14
  go_upto_region 1 with (fail)
  refine wp_named (fun W hW => ?_)
  have hW' : W = w.alloc (.cells (f.cells (.slice A n cap)) 26) := hW
  rw [← hW'] at U0 KA
  clear hW hW'
  obtain ⟨a0, a1, a2, a3, a4, a5, a6, a7, a8⟩ := KA.out.fr
  go_wp2_with fail
  clear a0 a1 a2 a3 a4 a5 a6 a7 a8
  refine (CM.out _ (SL.out _ U0.out)).mono ?_
  rintro x w1 ⟨rfl, hb1⟩
  have UW := Lib.hid (show Lex.Up W w1 from hb1)
  clear CM hb1
  cases z
  · rw [if_neg (by simp)] at HO
    go_wp2
    go_ret2
    exact ⟨_, rfl, by rw [HO.out]; exact World.ownsRow_nil _ _ _ _, U0.out.trans UW.out⟩
  rw [if_pos rfl] at HO
  have G := Lib.hid (HG.out rfl)
  have KB := Lib.hid (KA.out.up UW.out)
  have UB := Lib.hid (U0.out.trans UW.out)
  have HBL := Lib.hid (Fr.body_lt G.out)
  have HBN := Lib.hid (show (Fr.body f).length ≤ 883 from (Fr.body_len G.out).2)
  have g0 := G.out.r0
  have g1 : 0 ≤ f.k ∧ f.k < 256 := by rcases G.out.k with k | k | k | k | k <;> omega
  have g2 : f.r < 256 := by have := G.out.r5; omega
  have wk : IntKind.u8.wrap f.k = f.k := by rw [IntKind.wrap_u8]; omega
  have wr' : IntKind.u8.wrap f.r = f.r := by rw [IntKind.wrap_u8]; omega
  have e1 : ([f.k.toNat, f.r.toNat].map bv).toArray = #[.int .u8 f.k, .int .u8 f.r] := by
    simp only [bv, List.map_cons, List.map_nil, Int.toNat_of_nonneg g0, Int.toNat_of_nonneg g1.1]
  have ON := Lib.hid (own_new w1 (w.heap.size + 1) [f.k.toNat, f.r.toNat] (by have := KB.out.lt; omega) (by simp))
  rw [e1] at ON
  obtain ⟨a0, a1, a2, a3, a4, a5, a6, a7, a8⟩ := KB.out.fr
  have ltb := KB.out.lt
  go_upto_region 4 with (fail)
  refine wp_named (fun W3 hW => ?_)
  have hW' : W3 = w1.alloc (.cells #[.int .u8 f.k, .int .u8 f.r] 5) := hW
  rw [← hW'] at ON
  have K3 := Lib.hid (show Blk W3 w.heap.size (f.cells (.slice A n cap)) 26 by rw [hW']; exact KB.out.alloc _)
  have UZ := Lib.hid (show Below w.heap.size w W3 by rw [hW']; exact UB.out.alloc UB.out.size _)
  have HZ := Lib.hid (show w.heap.size + 1 ≤ W3.heap.size from K3.out.lt)
  have BR := Lib.hid (show Fr.body f = [f.k.toNat, f.r.toNat] ++ Fr.pay f from rfl)
  clear hW hW' KB UB KA U0 UW HG wk wr' e1 a0 a1 a2 a3 a4 a5 a6 a7 a8 ltb
  obtain ⟨a0, a1, a2, a3, a4, a5, a6, a7, a8⟩ := K3.out.fr
  have RF := Lib.hid (Below.refl (w.heap.size + 1) W3)
  generalize hb9 : w1.heap.size = b9 at *
  clear hb9
  by_cases k2 : f.k = 2
  · have d2 : (f.k == 2) = true := by simpa using k2
    obtain ⟨h0, h1, _, _⟩ := G.out.up k2
    obtain ⟨m, hm⟩ : ∃ m : Nat, f.u = m := ⟨f.u.toNat, by omega⟩
    have PY := Lib.hid (show Fr.body f = [f.k.toNat, f.r.toNat] ++ Pl.put m by rw [BR.out, Fr.pay, if_pos k2, hm]; rfl)
    rw [hm] at a2 h1
    have wm : IntKind.u64.wrap (m : Int) = m := by rw [IntKind.wrap_u64]; omega
    clear k2 hm
    go_wp2_with fail
    clear a0 a1 a2 a3 a4 a5 a6 a7 a8 wm
    obtain ⟨x0, hx0⟩ : ∃ x0, x0 = [f.k.toNat, f.r.toNat] := ⟨_, rfl⟩
    have hx2 : x0.length ≤ 2 := by rw [hx0]; exact Nat.le_refl _
    have HX0 := Lib.hid hx0
    have ON2 := Lib.hid (show W3.ownsRow (w.heap.size + 1) 5 1 (.slice (some ⟨b9, 0, none⟩) 2 2) x0.length (x0.map bv) by rw [hx0]; exact ON.out)
    rw [← hx0] at PY
    clear hx0
    refine (CP.out m _ ((by omega))).mono ?_
    rintro x w4 ⟨A9, cap9, rfl, hown, hb⟩
    have S2 := Lib.hid (slc_of_own hown (Pl.put_lt ((by omega))))
    have U2 := Lib.hid (RF.out.trans (hb.mono (Nat.le_trans HZ.out RF.out.size)))
    have O2 := Lib.hid (own_up ON2.out hb)
    have K2 := Lib.hid (K3.out.up hb)
    have Z2 : w.heap.size + 1 ≤ w4.heap.size := Nat.le_trans HZ.out U2.out.size
    have PL := Pl.put_len m
    have OB := Lib.hid (own_base ON2.out)
    clear hown hb
    generalize hys : Pl.put m = ys at *
    go_wp2_with (at_builtin; refine wpList_append_slc rfl _ _ rfl (w.heap.size + 1) _ x0.length x0 rfl O2.out A9 ys.length cap9 ys rfl S2.out (by omega) Z2 ?_)
    intro v5 w5 hown3 hg3
    have U5 := Lib.hid (Below.grown U2.out hg3 Z2 OB.out)
    have O5 := Lib.hid (show w5.ownsRow (w.heap.size + 1) 5 1 v5 (x0 ++ ys).length ((x0 ++ ys).map bv) by simpa using hown3)
    have K5 := Lib.hid (K2.out.row hg3 OB.out (Nat.lt_succ_self _))
    clear hown3 hg3 S2 U2 O2 Z2 OB K2
    subst hys
    have HX := Lib.hid (show x0 ++ Pl.put m = Fr.body f from PY.out.symm)
    obtain ⟨xs, hxs⟩ : ∃ xs, x0 ++ Pl.put m = xs := ⟨_, rfl⟩
    have hxl2 : xs.length = x0.length + (Pl.put m).length := by rw [← hxs, List.length_append]
    rw [hxs] at HX O5
    clear PY BR G ON ON2 K3 RF hxs PL hxl2 hx2 HX0 AD SL NL CE h0 h1 g0 g1 g2
    have hxl : xs.length ≤ 883 := by rw [HX.out]; exact HBN.out
    have hxb := Lib.hid (show Bts xs by rw [HX.out]; exact HBL.out)
    have HB := Lib.hid (show Fr.bytes f = Cr.sealed (Pl.put xs.length ++ xs) by rw [HX.out]; rfl)
    obtain ⟨A4, cap4, rfl, hs4⟩ := slc_of_own2 O5.out hxb.out
    have S4 := Lib.hid hs4
    clear hs4 HBN HBL
    obtain ⟨m, hm⟩ : ∃ m, xs.length = m := ⟨_, rfl⟩
    rw [hm] at S4 HB hxl
    have wm : IntKind.u64.wrap (m : Int) = m := by rw [IntKind.wrap_u64]; omega
    have U5' := Lib.hid (show Below w.heap.size w w5 from UZ.out.trans (Below.mono U5.out (Nat.le_succ _)))
    have Z5 : w.heap.size + 1 ≤ w5.heap.size := Nat.le_trans HZ.out U5.out.size
    simp only [hm]
    go_wp2_with fail
    refine (CP.out m _ (by omega)).mono ?_
    rintro x w6 ⟨A5, cap5, rfl, hown5, hb5⟩
    have O6 := Lib.hid (own_mono (B' := w.heap.size + 1) hown5 Z5)
    have U6 := Lib.hid (U5'.out.trans (hb5.mono U5'.out.size))
    have S6 := Lib.hid (S4.out.below hb5)
    have Z6 : w.heap.size + 1 ≤ w6.heap.size := Nat.le_trans Z5 hb5.size
    have OB := Lib.hid (own_base O6.out)
    have PL := Pl.put_len m
    have PLT := Lib.hid (Pl.put_lt (n := m) (by omega))
    clear hown5 hb5 wm S4
    generalize Pl.put m = ys at *
    generalize xs = bs at *
    go_wp2_with (at_builtin; refine wpList_append_slc rfl _ _ rfl (w.heap.size + 1) _ ys.length ys rfl O6.out A4 m cap4 bs rfl S6.out (by omega) Z6 ?_)
    intro v7 w7 hown6 hg6
    have U7 := Lib.hid (Below.grown (B := w.heap.size) U6.out hg6 (by omega) (fun k hk => by have := OB.out k hk; omega))
    have O7 : w7.ownsRow (w.heap.size + 1) 5 1 v7 (ys.length + m) ((ys ++ bs).map bv) := by simpa using hown6
    obtain ⟨A6, cap6, rfl, hs6⟩ := slc_of_own2 O7 (fun x hx => (List.mem_append.1 hx).elim (PLT.out x) (hxb.out x))
    have S7 := Lib.hid hs6
    clear hown6 hg6 hs6 O7
    go_wp2_with fail
    refine (CS.out A6 _ cap6 (ys ++ bs) _ S7.out (by omega)).mono ?_
    rintro x w8 ⟨A7, cap7, rfl, hown7, hb7⟩
    rw [← HB.out, ← HO.out] at hown7
    have O8 := Lib.hid (own_mono (B' := w.heap.size) hown7 U7.out.size)
    have e7 : (Fr.out f).length = (Cr.sealed (ys ++ bs)).length := by rw [HO.out, HB.out]
    rw [← e7]
    have U8 := Lib.hid (U7.out.trans (hb7.mono U7.out.size))
    clear hown7 hb7 e7
    go_wp2
    go_ret2
    exact ⟨_, rfl, O8.out, U8.out⟩
  have d2 : (f.k == 2) = false := by simpa using k2
  by_cases k3 : f.k = 3 ∨ f.k = 5
  · obtain ⟨h0, h1, _⟩ := G.out.ck k3
    have PY := Lib.hid (show Fr.body f = [f.k.toNat, f.r.toNat] ++ Fr.cks f.c 5 by rw [BR.out, Fr.pay, if_neg k2, if_pos k3])
    have HC := Lib.hid h1
    have HXC := Lib.hid (fun w' (hb : Blk w' w.heap.size (f.cells (.slice A n cap)) 26) j hj => hb.frClk (j := j) hj)
    have ON2 := Lib.hid ON.out
    clear h0 h1 ON BR G AD SL NL CE g0 g1 g2
    rcases k3 with k3 | k3
    · have d3 : (f.k == 3) = true := by simpa using k3
      clear k2 k3
      go_wp2
      go_loopw [4, 5] (fun v4 v5 wr => RCkRel (w.heap.size + 1) w.heap.size W3 f (.slice A n cap) v4 v5 wr) (fun _ v5 _ => 5 - (intOf v5).toNat)
      case atStart => exact ⟨0, [f.k.toNat, f.r.toNat], by omega, rfl, Lib.hid (by simp [Fr.cks]), ON2, K3, RF⟩
      case round =>
        obtain ⟨i, xs, hi, rfl, HXS, O1, K1, U1⟩ := hrel
        have LX : xs.length ≤ 57 := by have := Fr.cks_le f.c i; rw [HXS.out]; simp; omega
        clear ON2 K3 RF a0 a1 a2 a3 a4 a5 a6 a7 a8
        by_cases h5 : i < 5
        · have h5' : (i : Int) < 5 := by omega
          have hx := HXC.out wr K1.out i h5
          have HCi := HC.out i h5
          have HOT := Lib.hid (show Fr.cks f.c (i + 1) = Fr.cks f.c i ++ Pl.put (f.c.get i).toNat from rfl)
          obtain ⟨m, hm⟩ : ∃ m : Nat, f.c.get i = m := ⟨(f.c.get i).toNat, by omega⟩
          rw [hm] at hx HOT HCi
          clear hm
          have wm : IntKind.u64.wrap (m : Int) = m := by rw [IntKind.wrap_u64]; omega
          go_wp2_with fail
          clear hx
          refine (CP.out m _ ((by omega))).mono ?_
          rintro x w6 ⟨A9, cap9, rfl, hown, hb⟩
          have S2 := Lib.hid (slc_of_own hown (Pl.put_lt ((by omega))))
          have U2 := Lib.hid (U1.out.trans (hb.mono (Nat.le_trans HZ.out U1.out.size)))
          have O2 := Lib.hid (own_up O1.out hb)
          have K2 := Lib.hid (K1.out.up hb)
          have Z2 : w.heap.size + 1 ≤ w6.heap.size := Nat.le_trans HZ.out U2.out.size
          have PL := Pl.put_len m
          have OB := Lib.hid (own_base O1.out)
          clear hown hb
          generalize hys : Pl.put m = ys at *
          go_wp2_with (at_builtin; refine wpList_append_slc rfl _ _ rfl (w.heap.size + 1) _ xs.length xs rfl O2.out A9 ys.length cap9 ys rfl S2.out (by omega) Z2 ?_)
          intro v7 w7 hown3 hg3
          have U7 := Lib.hid (Below.grown U2.out hg3 Z2 OB.out)
          have O7 := Lib.hid (show w7.ownsRow (w.heap.size + 1) 5 1 v7 (xs ++ ys).length ((xs ++ ys).map bv) by simpa using hown3)
          have K7 := Lib.hid (K2.out.row hg3 OB.out (Nat.lt_succ_self _))
          clear hown3 hg3 S2 U2 O2 Z2 OB K2
          subst hys
          go_wp2
          go_roundw
          case rel => exact ⟨i + 1, xs ++ Pl.put m, by omega, by go_num, Lib.hid (by rw [HOT.out, HXS.out]; simp), O7, K7, U7⟩
          case measure => simp [intOf]; omega
        · obtain rfl : i = 5 := by omega
          have HX := Lib.hid (show xs = Fr.body f by rw [HXS.out, PY.out])
          clear HXS PY HC HXC K1 LX
          have hxl : xs.length ≤ 883 := by rw [HX.out]; exact HBN.out
          have hxb := Lib.hid (show Bts xs by rw [HX.out]; exact HBL.out)
          have HB := Lib.hid (show Fr.bytes f = Cr.sealed (Pl.put xs.length ++ xs) by rw [HX.out]; rfl)
          obtain ⟨A4, cap4, rfl, hs4⟩ := slc_of_own2 O1.out hxb.out
          have S4 := Lib.hid hs4
          clear hs4 HBN HBL
          obtain ⟨m, hm⟩ : ∃ m, xs.length = m := ⟨_, rfl⟩
          rw [hm] at S4 HB hxl
          have wm : IntKind.u64.wrap (m : Int) = m := by rw [IntKind.wrap_u64]; omega
          have U5' := Lib.hid (show Below w.heap.size w wr from UZ.out.trans (Below.mono U1.out (Nat.le_succ _)))
          have Z5 : w.heap.size + 1 ≤ wr.heap.size := Nat.le_trans HZ.out U1.out.size
          simp only [hm]
          go_wp2_with fail
          refine (CP.out m _ (by omega)).mono ?_
          rintro x w6 ⟨A5, cap5, rfl, hown5, hb5⟩
          have O6 := Lib.hid (own_mono (B' := w.heap.size + 1) hown5 Z5)
          have U6 := Lib.hid (U5'.out.trans (hb5.mono U5'.out.size))
          have S6 := Lib.hid (S4.out.below hb5)
          have Z6 : w.heap.size + 1 ≤ w6.heap.size := Nat.le_trans Z5 hb5.size
          have OB := Lib.hid (own_base O6.out)
          have PL := Pl.put_len m
          have PLT := Lib.hid (Pl.put_lt (n := m) (by omega))
          clear hown5 hb5 wm S4
          generalize Pl.put m = ys at *
          generalize xs = bs at *
          go_wp2_with (at_builtin; refine wpList_append_slc rfl _ _ rfl (w.heap.size + 1) _ ys.length ys rfl O6.out A4 m cap4 bs rfl S6.out (by omega) Z6 ?_)
          intro v7 w7 hown6 hg6
          have U7 := Lib.hid (Below.grown (B := w.heap.size) U6.out hg6 (by omega) (fun k hk => by have := OB.out k hk; omega))
          have O7 : w7.ownsRow (w.heap.size + 1) 5 1 v7 (ys.length + m) ((ys ++ bs).map bv) := by simpa using hown6
          obtain ⟨A6, cap6, rfl, hs6⟩ := slc_of_own2 O7 (fun x hx => (List.mem_append.1 hx).elim (PLT.out x) (hxb.out x))
          have S7 := Lib.hid hs6
          clear hown6 hg6 hs6 O7
          go_wp2_with fail
          refine (CS.out A6 _ cap6 (ys ++ bs) _ S7.out (by omega)).mono ?_
          rintro x w8 ⟨A7, cap7, rfl, hown7, hb7⟩
          rw [← HB.out, ← HO.out] at hown7
          have O8 := Lib.hid (own_mono (B' := w.heap.size) hown7 U7.out.size)
          have e7 : (Fr.out f).length = (Cr.sealed (ys ++ bs)).length := by rw [HO.out, HB.out]
          rw [← e7]
          have U8 := Lib.hid (U7.out.trans (hb7.mono U7.out.size))
          clear hown7 hb7 e7
          go_wp2
          go_ret2
          exact ⟨_, rfl, O8.out, U8.out⟩
    · have d3 : (f.k == 3) = false := by simp; omega
      have d5 : (f.k == 5) = true := by simpa using k3
      clear k2 k3
      go_wp2
      go_loopw [4, 5] (fun v4 v5 wr => RCkRel (w.heap.size + 1) w.heap.size W3 f (.slice A n cap) v4 v5 wr) (fun _ v5 _ => 5 - (intOf v5).toNat)
      case atStart => exact ⟨0, [f.k.toNat, f.r.toNat], by omega, rfl, Lib.hid (by simp [Fr.cks]), ON2, K3, RF⟩
      case round =>
        obtain ⟨i, xs, hi, rfl, HXS, O1, K1, U1⟩ := hrel
        have LX : xs.length ≤ 57 := by have := Fr.cks_le f.c i; rw [HXS.out]; simp; omega
        clear ON2 K3 RF a0 a1 a2 a3 a4 a5 a6 a7 a8
        by_cases h5 : i < 5
        · have h5' : (i : Int) < 5 := by omega
          have hx := HXC.out wr K1.out i h5
          have HCi := HC.out i h5
          have HOT := Lib.hid (show Fr.cks f.c (i + 1) = Fr.cks f.c i ++ Pl.put (f.c.get i).toNat from rfl)
          obtain ⟨m, hm⟩ : ∃ m : Nat, f.c.get i = m := ⟨(f.c.get i).toNat, by omega⟩
          rw [hm] at hx HOT HCi
          clear hm
          have wm : IntKind.u64.wrap (m : Int) = m := by rw [IntKind.wrap_u64]; omega
          go_wp2_with fail
          clear hx
          refine (CP.out m _ ((by omega))).mono ?_
          rintro x w6 ⟨A9, cap9, rfl, hown, hb⟩
          have S2 := Lib.hid (slc_of_own hown (Pl.put_lt ((by omega))))
          have U2 := Lib.hid (U1.out.trans (hb.mono (Nat.le_trans HZ.out U1.out.size)))
          have O2 := Lib.hid (own_up O1.out hb)
          have K2 := Lib.hid (K1.out.up hb)
          have Z2 : w.heap.size + 1 ≤ w6.heap.size := Nat.le_trans HZ.out U2.out.size
          have PL := Pl.put_len m
          have OB := Lib.hid (own_base O1.out)
          clear hown hb
          generalize hys : Pl.put m = ys at *
          go_wp2_with (at_builtin; refine wpList_append_slc rfl _ _ rfl (w.heap.size + 1) _ xs.length xs rfl O2.out A9 ys.length cap9 ys rfl S2.out (by omega) Z2 ?_)
          intro v7 w7 hown3 hg3
          have U7 := Lib.hid (Below.grown U2.out hg3 Z2 OB.out)
          have O7 := Lib.hid (show w7.ownsRow (w.heap.size + 1) 5 1 v7 (xs ++ ys).length ((xs ++ ys).map bv) by simpa using hown3)
          have K7 := Lib.hid (K2.out.row hg3 OB.out (Nat.lt_succ_self _))
          clear hown3 hg3 S2 U2 O2 Z2 OB K2
          subst hys
          go_wp2
          go_roundw
          case rel => exact ⟨i + 1, xs ++ Pl.put m, by omega, by go_num, Lib.hid (by rw [HOT.out, HXS.out]; simp), O7, K7, U7⟩
          case measure => simp [intOf]; omega
        · obtain rfl : i = 5 := by omega
          have HX := Lib.hid (show xs = Fr.body f by rw [HXS.out, PY.out])
          clear HXS PY HC HXC K1 LX
          have hxl : xs.length ≤ 883 := by rw [HX.out]; exact HBN.out
          have hxb := Lib.hid (show Bts xs by rw [HX.out]; exact HBL.out)
          have HB := Lib.hid (show Fr.bytes f = Cr.sealed (Pl.put xs.length ++ xs) by rw [HX.out]; rfl)
          obtain ⟨A4, cap4, rfl, hs4⟩ := slc_of_own2 O1.out hxb.out
          have S4 := Lib.hid hs4
          clear hs4 HBN HBL
          obtain ⟨m, hm⟩ : ∃ m, xs.length = m := ⟨_, rfl⟩
          rw [hm] at S4 HB hxl
          have wm : IntKind.u64.wrap (m : Int) = m := by rw [IntKind.wrap_u64]; omega
          have U5' := Lib.hid (show Below w.heap.size w wr from UZ.out.trans (Below.mono U1.out (Nat.le_succ _)))
          have Z5 : w.heap.size + 1 ≤ wr.heap.size := Nat.le_trans HZ.out U1.out.size
          simp only [hm]
          go_wp2_with fail
          refine (CP.out m _ (by omega)).mono ?_
          rintro x w6 ⟨A5, cap5, rfl, hown5, hb5⟩
          have O6 := Lib.hid (own_mono (B' := w.heap.size + 1) hown5 Z5)
          have U6 := Lib.hid (U5'.out.trans (hb5.mono U5'.out.size))
          have S6 := Lib.hid (S4.out.below hb5)
          have Z6 : w.heap.size + 1 ≤ w6.heap.size := Nat.le_trans Z5 hb5.size
          have OB := Lib.hid (own_base O6.out)
          have PL := Pl.put_len m
          have PLT := Lib.hid (Pl.put_lt (n := m) (by omega))
          clear hown5 hb5 wm S4
          generalize Pl.put m = ys at *
          generalize xs = bs at *
          go_wp2_with (at_builtin; refine wpList_append_slc rfl _ _ rfl (w.heap.size + 1) _ ys.length ys rfl O6.out A4 m cap4 bs rfl S6.out (by omega) Z6 ?_)
          intro v7 w7 hown6 hg6
          have U7 := Lib.hid (Below.grown (B := w.heap.size) U6.out hg6 (by omega) (fun k hk => by have := OB.out k hk; omega))
          have O7 : w7.ownsRow (w.heap.size + 1) 5 1 v7 (ys.length + m) ((ys ++ bs).map bv) := by simpa using hown6
          obtain ⟨A6, cap6, rfl, hs6⟩ := slc_of_own2 O7 (fun x hx => (List.mem_append.1 hx).elim (PLT.out x) (hxb.out x))
          have S7 := Lib.hid hs6
          clear hown6 hg6 hs6 O7
          go_wp2_with fail
          refine (CS.out A6 _ cap6 (ys ++ bs) _ S7.out (by omega)).mono ?_
          rintro x w8 ⟨A7, cap7, rfl, hown7, hb7⟩
          rw [← HB.out, ← HO.out] at hown7
          have O8 := Lib.hid (own_mono (B' := w.heap.size) hown7 U7.out.size)
          have e7 : (Fr.out f).length = (Cr.sealed (ys ++ bs)).length := by rw [HO.out, HB.out]
          rw [← e7]
          have U8 := Lib.hid (U7.out.trans (hb7.mono U7.out.size))
          clear hown7 hb7 e7
          go_wp2
          go_ret2
          exact ⟨_, rfl, O8.out, U8.out⟩
  · have k14 : f.k = 1 ∨ f.k = 4 := by rcases G.out.k with k | k | k | k | k <;> omega
    have d3 : (f.k == 3) = false := by simp; omega
    have d5 : (f.k == 5) = false := by simp; omega
    obtain ⟨h0, h1, h2, h3⟩ := G.out.ev k14
    have PY := Lib.hid (show Fr.body f = [f.k.toNat, f.r.toNat] ++ (n :: Fr.evs f.es) by rw [BR.out, Fr.pay, if_neg k2, if_neg k3, NL.out])
    rw [NL.out] at h2
    have HG := Lib.hid h3
    have HLN := Lib.hid (show ∀ k, (Fr.evs (f.es.take k)).length ≤ 44 * 20 from fun k => by
      have h1 := Fr.evs_len (es := f.es.take k) (fun e he => h3 e (List.mem_of_mem_take he))
      rw [List.length_take] at h1
      have := NL.out
      omega)
    have wn : IntKind.u8.wrap (n : Int) = n := by rw [IntKind.wrap_u8]; omega
    have O4 := Lib.hid (ON.out.alloc (.cells #[.int .u8 (n : Int)] 5))
    have S4 := Lib.hid (slc_new (w := W3.alloc (.cells #[.int .u8 (n : Int)] 5)) (g := W3.heap.size) (t := 5) (fr := (0, 0)) [n] (heap_alloc_new _ _) (by simp; omega) (by simp))
    have K4 := Lib.hid (K3.out.alloc (.cells #[.int .u8 (n : Int)] 5))
    have U4 := Lib.hid (show Below (w.heap.size + 1) W3 (W3.alloc (.cells #[.int .u8 (n : Int)] 5)) from (Below.refl _ _).alloc HZ.out _)
    have OB := Lib.hid (own_base O4.out)
    have Z4 : w.heap.size + 1 ≤ (W3.alloc (.cells #[.int .u8 (n : Int)] 5)).heap.size := Nat.le_trans HZ.out U4.out.size
    clear k2 k3 k14 h0 h1 h3 BR G g0 g1 g2 ON
    go_wp2_with (at_builtin; refine wpList_append_slc rfl _ _ rfl (w.heap.size + 1) _ 2 [f.k.toNat, f.r.toNat] rfl O4.out (some ⟨W3.heap.size, 0, none⟩) 1 1 [n] rfl S4.out (by omega) Z4 ?_)
    intro v5 w5 hown hg
    have U5 := Lib.hid (Below.grown U4.out hg Z4 OB.out)
    have O5 := Lib.hid (show w5.ownsRow (w.heap.size + 1) 5 1 v5 ([f.k.toNat, f.r.toNat] ++ [n]).length (([f.k.toNat, f.r.toNat] ++ [n]).map bv) by simpa using hown)
    have K5 := Lib.hid (K4.out.row hg OB.out (Nat.lt_succ_self _))
    clear hown hg S4 U4 O4 Z4 OB K4 wn a0 a1 a2 a3 a4 a5 a6 a7 a8 K3
    go_wp2
    go_loopw [4, 6] (fun v4 v6 wr => REsRel (w.heap.size + 1) w.heap.size W3 n f (.slice A n cap) v4 v6 wr) (fun _ v6 _ => n - (intOf v6).toNat)
    case atStart => exact ⟨0, [f.k.toNat, f.r.toNat] ++ [n], by omega, rfl, Lib.hid (by simp [Fr.evs]), O5, K5, U5⟩
    case round =>
      obtain ⟨i, xs, hi, rfl, HXS, O1, K1, U1⟩ := hrel
      have LX : xs.length ≤ 884 := by have := HLN.out i; rw [HXS.out]; simp; omega
      clear O5 K5 U5
      obtain ⟨a0, a1, a2, a3, a4, a5, a6, a7, a8⟩ := K1.out.fr
      by_cases h5 : i < n
      · have h5' : (i : Int) < n := by omega
        obtain ⟨b, off, rfl⟩ := AD.out (by omega)
        obtain ⟨e0, e1, e2, e3, e4, e5, e6, e7, e8, e9, e10, e11⟩ := ev_at (SL.out wr (Below.trans UZ.out (Below.mono U1.out (Nat.le_succ _)))) h5
        have GE := Lib.hid (HG.out _ (Fr.nth_mem (k := i) (by rw [NL.out]; exact h5)))
        have HOT := Lib.hid (Fr.evs_take (es := f.es) (k := i) (by rw [NL.out]; exact h5))
        generalize Ev.nth f.es i = e at e0 e1 e2 e3 e4 e5 e6 e7 e8 e9 e10 e11 GE HOT
        have HL : (Ev.bytes e).length ≤ 44 := Ev.bytes_len GE.out
        have HLT := Lib.hid (Ev.bytes_lt GE.out)
        go_wp2_with fail
        refine (CE.out e _).mono ?_
        rintro x w6 ⟨v, rfl, hown, hb⟩
        rw [Ev.out_good GE.out] at hown
        rw [(Ev.good_iff e).2 GE.out]
        obtain ⟨A6, cap6, rfl, hs6⟩ := slc_of_own2 hown HLT.out
        have S6 := Lib.hid hs6
        have U6 := Lib.hid (U1.out.trans (hb.mono (Nat.le_trans HZ.out U1.out.size)))
        have O6 := Lib.hid (own_up O1.out hb)
        have K6 := Lib.hid (K1.out.up hb)
        have Z6 : w.heap.size + 1 ≤ w6.heap.size := Nat.le_trans HZ.out U6.out.size
        have OB := Lib.hid (own_base O1.out)
        clear hown hb hs6 e0 e1 e2 e3 e4 e5 e6 e7 e8 e9 e10 e11 GE HLT K1 O1 a0 a1 a2 a3 a4 a5 a6 a7 a8
        generalize Ev.bytes e = ys at *
        go_wp2_with (at_builtin; refine wpList_append_slc rfl _ _ rfl (w.heap.size + 1) _ xs.length xs rfl O6.out A6 ys.length cap6 ys rfl S6.out (by omega) Z6 ?_)
        intro v7 w7 hown7 hg7
        have U7 := Lib.hid (Below.grown U6.out hg7 Z6 OB.out)
        have O7 := Lib.hid (show w7.ownsRow (w.heap.size + 1) 5 1 v7 (xs ++ ys).length ((xs ++ ys).map bv) by simpa using hown7)
        have K7 := Lib.hid (K6.out.row hg7 OB.out (Nat.lt_succ_self _))
        clear hown7 hg7 S6 U6 O6 Z6 OB K6
        go_wp2
        go_roundw
        case rel => exact ⟨i + 1, xs ++ ys, by omega, by go_num, Lib.hid (by rw [HOT.out, HXS.out]; simp), O7, K7, U7⟩
        case measure => simp [intOf]; omega
      · obtain rfl : i = n := by omega
        have HX := Lib.hid (show xs = Fr.body f by rw [HXS.out, PY.out, ← NL.out, List.take_length])
        clear HXS PY AD SL NL CE HG HLN K1 LX
        have hxl : xs.length ≤ 883 := by rw [HX.out]; exact HBN.out
        have hxb := Lib.hid (show Bts xs by rw [HX.out]; exact HBL.out)
        have HB := Lib.hid (show Fr.bytes f = Cr.sealed (Pl.put xs.length ++ xs) by rw [HX.out]; rfl)
        obtain ⟨A4, cap4, rfl, hs4⟩ := slc_of_own2 O1.out hxb.out
        have S4 := Lib.hid hs4
        clear hs4 HBN HBL
        obtain ⟨m, hm⟩ : ∃ m, xs.length = m := ⟨_, rfl⟩
        rw [hm] at S4 HB hxl
        have wm : IntKind.u64.wrap (m : Int) = m := by rw [IntKind.wrap_u64]; omega
        have U5' := Lib.hid (show Below w.heap.size w wr from UZ.out.trans (Below.mono U1.out (Nat.le_succ _)))
        have Z5 : w.heap.size + 1 ≤ wr.heap.size := Nat.le_trans HZ.out U1.out.size
        simp only [hm]
        go_wp2_with fail
        refine (CP.out m _ (by omega)).mono ?_
        rintro x w6 ⟨A5, cap5, rfl, hown5, hb5⟩
        have O6 := Lib.hid (own_mono (B' := w.heap.size + 1) hown5 Z5)
        have U6 := Lib.hid (U5'.out.trans (hb5.mono U5'.out.size))
        have S6 := Lib.hid (S4.out.below hb5)
        have Z6 : w.heap.size + 1 ≤ w6.heap.size := Nat.le_trans Z5 hb5.size
        have OB := Lib.hid (own_base O6.out)
        have PL := Pl.put_len m
        have PLT := Lib.hid (Pl.put_lt (n := m) (by omega))
        clear hown5 hb5 wm S4
        generalize Pl.put m = ys at *
        generalize xs = bs at *
        go_wp2_with (at_builtin; refine wpList_append_slc rfl _ _ rfl (w.heap.size + 1) _ ys.length ys rfl O6.out A4 m cap4 bs rfl S6.out (by omega) Z6 ?_)
        intro v7 w7 hown6 hg6
        have U7 := Lib.hid (Below.grown (B := w.heap.size) U6.out hg6 (by omega) (fun k hk => by have := OB.out k hk; omega))
        have O7 : w7.ownsRow (w.heap.size + 1) 5 1 v7 (ys.length + m) ((ys ++ bs).map bv) := by simpa using hown6
        obtain ⟨A6, cap6, rfl, hs6⟩ := slc_of_own2 O7 (fun x hx => (List.mem_append.1 hx).elim (PLT.out x) (hxb.out x))
        have S7 := Lib.hid hs6
        clear hown6 hg6 hs6 O7
        go_wp2_with fail
        refine (CS.out A6 _ cap6 (ys ++ bs) _ S7.out (by omega)).mono ?_
        rintro x w8 ⟨A7, cap7, rfl, hown7, hb7⟩
        rw [← HB.out, ← HO.out] at hown7
        have O8 := Lib.hid (own_mono (B' := w.heap.size) hown7 U7.out.size)
        have e7 : (Fr.out f).length = (Cr.sealed (ys ++ bs)).length := by rw [HO.out, HB.out]
        rw [← e7]
        have U8 := Lib.hid (U7.out.trans (hb7.mono U7.out.size))
        clear hown7 hb7 e7
        go_wp2
        go_ret2
        exact ⟨_, rfl, O8.out, U8.out⟩
end Go.Proofs.Ythgfbnkggdlokaa
