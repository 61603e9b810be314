/-
  The walk of BookWrites.
-/
import Derived.Test.YtolpfchnfhdhkaaWrp
import Derived.Test.YtolpfchnfhdhkaaBase
namespace Go.Proofs.Ytolpfchnfhdhkaa
open Go.RowKit
set_option maxRecDepth 100000
set_option maxRecDepth 100000

theorem ES12 : Elem Try.prog 22 39 Ev.zero.val 12 112 := ⟨Try.underlying22, by kernel_rfl, rfl, by decide⟩
theorem own_new {w : World} {B g : Nat} {e : TypeId} {sz n : Nat} {xs : List Value} (h : Blk w g xs.toArray e) (hl : xs.length = n * sz) (hB : B ≤ g) (hn : n ≤ maxLen) : w.ownsRow B e sz (.slice (some ⟨g, 0, none⟩) n n) n xs :=
  ⟨hl, .inr ⟨g, n, xs.toArray, rfl, hB, h, Nat.le_refl _, hn, by simpa using hl, by simp [← hl]⟩⟩
namespace Wr
def nn (z : Nat → Nat) (r : Nat) : Nat := z r % 8
def box (z : Nat → Nat) : Array Value := #[.int .u8 (z 0 : Nat), .int .u8 (z 1 : Nat), .int .u8 (z 2 : Nat), .int .u8 (z 3 : Nat), .int .u8 (z 4 : Nat)]
theorem nn_lt (z : Nat → Nat) (r : Nat) : nn z r < 8 := Nat.mod_lt _ (by decide)
theorem wrs_len (n : Nat → Nat) (hn : ∀ r, n r < 8) : ∀ R, (wrs n R).length ≤ 8 * R
  | 0 => by simp [wrs]
  | R + 1 => by
    have := wrs_len n hn R
    have h := hn R
    rw [wrs_succ, List.length_append]
    simp [evs]; omega
def ev0 (r k : Nat) : Ev := ⟨r, (k : Int) + 1, ⟨1, 0, 0, 0, 0⟩, (k : Int) + 2, 3, Bk.cy, 0, vl r k⟩
theorem str_vl (r k : Nat) : str [97 + r, 48 + k] = vl r k := rfl
end Wr
def WrRel1 (z : Nat → Nat) (s : Nat) (W : World) (v4 v5 v6 v7 : Value) (wr : World) : Prop :=
  ∃ r : Nat, r ≤ 5 ∧ v7 = .int .i64 r ∧ v5 = .int .i64 (Wr.bh (Wr.nn z) r).1 ∧ v6 = .int .i64 ((Wr.bh (Wr.nn z) r).2 : Nat) ∧ Hid (wr.ownsRow (s + 1) 39 12 v4 (Wr.lst (Wr.nn z) r).length (evc (Wr.lst (Wr.nn z) r))) ∧ Hid (Blk wr s (Wr.box z) 63) ∧ Hid (Below s W wr) ∧ s + 1 ≤ wr.heap.size
def WrRel2 (z : Nat → Nat) (r s : Nat) (W : World) (v4 v9 : Value) (wr : World) : Prop :=
  ∃ k : Nat, k ≤ Wr.nn z r ∧ v9 = .int .i64 k ∧ Hid (wr.ownsRow (s + 1) 39 12 v4 (Wr.lst (Wr.nn z) r ++ Wr.evs r k).length (evc (Wr.lst (Wr.nn z) r ++ Wr.evs r k))) ∧ Hid (Blk wr s (Wr.box z) 63) ∧ Hid (Below s W wr) ∧ s + 1 ≤ wr.heap.size

set_option maxHeartbeats 6400000 in
theorem law_writes (z : Nat → Nat) (w : World) (hz : ∀ r, z r < 256) :
    Calls Try.prog 13 #[.agg #[.int .u8 (z 0 : Nat), .int .u8 (z 1 : Nat), .int .u8 (z 2 : Nat), .int .u8 (z 3 : Nat), .int .u8 (z 4 : Nat)]] w fun x w' => x = .returned (.bool true) ∧ Below w.heap.size w w' := by
  have C1 := Lib.hid (fun w => shown_any w)
  have K0 := Lib.hid (Blk.new w (Wr.box z) 63)
  have U0 := Lib.hid (show Below w.heap.size w (w.alloc (.cells (Wr.box z) 63)) from (Below.refl _ _).alloc (Nat.le_refl _) _)
  have EE := Lib.hid ES12
  have CY := Lib.hid (show ∀ r, ∀ e ∈ Wr.lst (Wr.nn z) r, e.key.size ≤ maxLen from fun r e he => by
    have : e.key = Bk.cy := by
      rcases List.mem_cons.1 he with rfl | he
      · rfl
      · obtain ⟨r, k, _, _, rfl⟩ := Wr.mem_wrs.1 he; rfl
    rw [this]; decide)
  have LL := Lib.hid (Wr.wrs_len (Wr.nn z) (Wr.nn_lt z))
  unfold Wr.box at K0 U0
  go_enter Try.func13, Try.ntmps13
  go_wp2_with fail
  refine (C1.out _).mono ?_
  rintro x w1 ⟨rfl, hu⟩
  have K1 := Lib.hid (show Blk w1 w.heap.size (Wr.box z) 63 from K0.out.up hu)
  have U1 := Lib.hid (show Below w.heap.size w w1 from Below.trans U0.out (hu.mono U0.out.size))
  have lt1 := K1.out.lt
  clear hu C1 K0 U0
  have K2 := Lib.hid (K1.out.alloc (.cells (evc [Bk.e1]).toArray 39))
  have U2 := Lib.hid (U1.out.alloc U1.out.size (.cells (evc [Bk.e1]).toArray 39))
  have O2 := Lib.hid (own_new (w := w1.alloc (.cells (evc [Bk.e1]).toArray 39)) (B := w.heap.size + 1) (n := 1) (sz := 12) (Blk.new w1 (evc [Bk.e1]).toArray 39) rfl (by omega) (by decide))
  have z2 : w.heap.size + 1 ≤ (w1.alloc (.cells (evc [Bk.e1]).toArray 39)).heap.size := by simp; omega
  go_wp2
  go_loopw [4, 5, 6, 7] (fun v4 v5 v6 v7 wr => WrRel1 z w.heap.size w v4 v5 v6 v7 wr) (fun _ _ _ v7 _ => 5 - (intOf v7).toNat)
  case atStart => exact ⟨0, by omega, rfl, rfl, rfl, O2, K2, U2, z2⟩
  case round =>
    obtain ⟨r, hr, rfl, rfl, rfl, OO, KK, UU, zz⟩ := hrel
    clear K1 U1 K2 U2 O2 z2 lt1
    by_cases h5 : r < 5
    · have h5' : (r : Int) < 5 := by omega
      have bk : wr.cell? ⟨w.heap.size, r, none⟩ = some (.int .u8 (z r : Nat)) := by
        match r, h5 with
        | 0, _ | 1, _ | 2, _ | 3, _ | 4, _ => exact KK.out.cell rfl
      have hzr := hz r
      have hmod : ((z r : Nat) : Int).tmod 8 = (Wr.nn z r : Nat) := by
        rw [Int.tmod_eq_emod_of_nonneg (by omega)]
        unfold Wr.nn
        omega
      have hm8 := Wr.nn_lt z r
      have ltb := KK.out.lt
      go_wp2
      clear bk
      go_loopw [4, 9] (fun v4 v9 wr => WrRel2 z r w.heap.size w v4 v9 wr) (fun _ v9 _ => Wr.nn z r - (intOf v9).toNat)
      case atStart => exact ⟨0, by omega, rfl, Lib.hid (by simpa [Wr.evs] using OO.out), KK, UU, zz⟩
      case round =>
        clear OO KK UU zz ltb
        obtain ⟨k, hk, rfl, OO, KK, UU, zz⟩ := hrel
        by_cases h6 : k < Wr.nn z r
        · have h6' : (k : Int) < (Wr.nn z r : Nat) := by omega
          have hcv : (convert 33 9 (.slice (some ⟨wr.heap.size, 0, none⟩) 2 2)).run Try.prog (wr.alloc (.cells #[.int .u8 (97 + (r : Int)), .int .u8 (48 + (k : Int))] 5)) = .ok (.string (Wr.vl r k)) (wr.alloc (.cells #[.int .u8 (97 + (r : Int)), .int .u8 (48 + (k : Int))] 5)) := by
            have := conv_slc (slc_new (w := wr.alloc (.cells #[.int .u8 (97 + (r : Int)), .int .u8 (48 + (k : Int))] 5)) (g := wr.heap.size) (t := 5) (fr := (0, 0)) [97 + r, 48 + k] (heap_alloc_new _ _) (by simp; omega) (by simp))
            rw [Wr.str_vl] at this
            exact this
          have ltw := KK.out.lt
          go_upto_region 13 with (fail)
          refine wp_named (fun W12 hW => ?_)
          have E12 := Lib.hid (show Blk W12 (wr.heap.size + 1) (Wr.ev0 r k).cells 39 by
            have h := Blk.new (wr.alloc (.cells #[.int .u8 (97 + (r : Int)), .int .u8 (48 + (k : Int))] 5)) (Wr.ev0 r k).cells 39
            rw [World.size_alloc] at h
            rw [hW]; exact h)
          have V12 := Lib.hid (show Below wr.heap.size wr W12 by rw [hW]; exact ((Below.refl _ _).alloc (Nat.le_refl _) _).alloc (by simp) _)
          clear hW hcv
          have lte := E12.out.lt
          have n1 : W12.cell? ⟨wr.heap.size + 1, 1, none⟩ = some (.int .i64 ((k : Int) + 1)) := E12.out.cell rfl
          have fr := E12.out.frozen
          have f1 := fr 1
          have f2 := fr (2 + r)
          obtain ⟨cv, hcv⟩ : ∃ cv, W12.cell? ⟨wr.heap.size + 1, 2 + r, none⟩ = some (.int .i64 cv) := by
            match r, h5 with
            | 0, _ | 1, _ | 2, _ | 3, _ | 4, _ => exact ⟨_, E12.out.cell rfl⟩
          clear fr
          by_cases r0 : r = 0
          · have d0 : ((r : Int) == 0) = true := by rw [r0]; rfl
            have hne1 : 2 + r ≠ 1 := by omega
            have hne2 : 1 ≠ 2 + r := by omega
            have hs1 : (k : Int) + 2 - 1 = k + 1 := by omega
            have E15 := Lib.hid (show Blk ((W12.setCell ⟨wr.heap.size + 1, 1, none⟩ (.int .i64 ((k : Int) + 2))).setCell ⟨wr.heap.size + 1, 2 + r, none⟩ (.int .i64 ((k : Int) + 1))) (wr.heap.size + 1) (Wr.ev r k).cells 39 from by
              have := (E12.out.set 1 (.int .i64 ((k : Int) + 2))).set (2 + r) (.int .i64 ((k : Int) + 1))
              subst r0
              exact this)
            have V15 := Lib.hid ((V12.out.setCell (p := ⟨wr.heap.size + 1, 1, none⟩) (by simp) (.int .i64 ((k : Int) + 2))).setCell (p := ⟨wr.heap.size + 1, 2 + r, none⟩) (by simp) (.int .i64 ((k : Int) + 1)))
            clear r0
            go_upto_region 16 with (fail)
            refine wp_named (fun W16 hW => ?_)
            have E16 := Lib.hid (show Blk W16 (wr.heap.size + 1) (Wr.ev r k).cells 39 by rw [hW]; exact E15.out)
            have V16 := Lib.hid (show Below wr.heap.size wr W16 by rw [hW]; exact V15.out)
            clear hW E15 V15 E12 V12 lte n1 f1 f2 hcv d0
            obtain ⟨a0, a1, a2, a3, a4, a5, a6, a7, a8, a9, a10, a11⟩ := E16.out.e12
            have OW := Lib.hid ((own_up OO.out V16.out).alloc (.cells (Wr.ev r k).cells 39))
            have S1 := Lib.hid (Sl.of_blk (n := 1) (sz := 12) (cs := (Wr.ev r k).cells.toList) (Blk.new W16 (Wr.ev r k).cells 39) rfl (by omega))
            have hlen : (Wr.lst (Wr.nn z) r ++ Wr.evs r k).length ≤ 1000 := by
              have h1 := LL.out r
              have h2 := Wr.nn_lt z r
              simp [Wr.lst, Wr.evs]; omega
            have hb1 : ((Wr.lst (Wr.nn z) r ++ Wr.evs r k).length + 1) * 112 ≤ 140737488355328 := by omega
            have hb2 : (Wr.lst (Wr.nn z) r ++ Wr.evs r k).length + 1 ≤ maxLen := by simp only [maxLen]; omega
            have z16 := V16.out.size
            have HLN := Lib.hid hlen
            have OC := Lib.hid (show ∀ u ∈ (Wr.ev r k).cells.toList, u.oneCell' = true from fun u hu => evc_one' [Wr.ev r k] u (by rw [evc_one]; exact hu))
            unfold Ev.cells at OW S1 OC
            clear hlen
            go_wp2_with (at_builtin; refine EE.out.wpList_append (by rfl) _ _ rfl (w.heap.size + 1) u4 (Wr.lst (Wr.nn z) r ++ Wr.evs r k).length (evc (Wr.lst (Wr.nn z) r ++ Wr.evs r k)) rfl OW.out (some ⟨W16.heap.size, 0, none⟩) 1 1 _ rfl S1.out OC.out hb1 hb2 (by simp; omega) ?_)
            intro v8 w8 hown8 hg8
            have O8 := Lib.hid (show w8.ownsRow (w.heap.size + 1) 39 12 v8 (Wr.lst (Wr.nn z) r ++ Wr.evs r (k + 1)).length (evc (Wr.lst (Wr.nn z) r ++ Wr.evs r (k + 1))) from by
              rw [Wr.evs_succ, ← List.append_assoc, evc_append, evc_one, List.length_append]
              have h := hown8
              rw [← List.length_append] at h
              exact h)
            have UA : Below w.heap.size w (W16.alloc (.cells (Wr.ev r k).cells 39)) := Below.alloc (Below.trans UU.out (V16.out.mono UU.out.size)) (Nat.le_trans UU.out.size z16) _
            have U8 := Lib.hid (show Below w.heap.size w w8 from Below.grown UA hg8 UA.size (fun q hq => by have := own_base OO.out q hq; omega))
            have K8 := Lib.hid (show Blk w8 w.heap.size (Wr.box z) 63 from ((KK.out.up V16.out).alloc (.cells (Wr.ev r k).cells 39)).grown hg8 (fun q => by have := own_base OO.out _ q.symm; omega))
            have z8 : w.heap.size + 1 ≤ w8.heap.size := by have := hg8.size; simp at this; omega
            clear hown8 hg8 UA OO KK UU OW S1 OC hb1 hb2 z16 E16 V16 a0 a1 a2 a3 a4 a5 a6 a7 a8 a9 a10 a11
            go_wp2
            go_roundw
            case rel => exact ⟨k + 1, by omega, by go_num, O8, K8, U8, z8⟩
            case measure => simp [intOf]; omega
          · have d0 : ((r : Int) == 0) = false := by simpa using r0
            have hs1 : (k : Int) + 1 - 1 = k := by omega
            have E15 := Lib.hid (show Blk (W12.setCell ⟨wr.heap.size + 1, 2 + r, none⟩ (.int .i64 (k : Int))) (wr.heap.size + 1) (Wr.ev r k).cells 39 from by
              have := E12.out.set (2 + r) (.int .i64 (k : Int))
              match r, h5, r0, this with
              | 1, _, _, this | 2, _, _, this | 3, _, _, this | 4, _, _, this => exact this)
            have V15 := Lib.hid (V12.out.setCell (p := ⟨wr.heap.size + 1, 2 + r, none⟩) (by simp) (.int .i64 (k : Int)))
            clear r0
            go_upto_region 16 with (fail)
            refine wp_named (fun W16 hW => ?_)
            have E16 := Lib.hid (show Blk W16 (wr.heap.size + 1) (Wr.ev r k).cells 39 by rw [hW]; exact E15.out)
            have V16 := Lib.hid (show Below wr.heap.size wr W16 by rw [hW]; exact V15.out)
            clear hW E15 V15 E12 V12 lte n1 f1 f2 hcv d0
            obtain ⟨a0, a1, a2, a3, a4, a5, a6, a7, a8, a9, a10, a11⟩ := E16.out.e12
            have OW := Lib.hid ((own_up OO.out V16.out).alloc (.cells (Wr.ev r k).cells 39))
            have S1 := Lib.hid (Sl.of_blk (n := 1) (sz := 12) (cs := (Wr.ev r k).cells.toList) (Blk.new W16 (Wr.ev r k).cells 39) rfl (by omega))
            have hlen : (Wr.lst (Wr.nn z) r ++ Wr.evs r k).length ≤ 1000 := by
              have h1 := LL.out r
              have h2 := Wr.nn_lt z r
              simp [Wr.lst, Wr.evs]; omega
            have hb1 : ((Wr.lst (Wr.nn z) r ++ Wr.evs r k).length + 1) * 112 ≤ 140737488355328 := by omega
            have hb2 : (Wr.lst (Wr.nn z) r ++ Wr.evs r k).length + 1 ≤ maxLen := by simp only [maxLen]; omega
            have z16 := V16.out.size
            have HLN := Lib.hid hlen
            have OC := Lib.hid (show ∀ u ∈ (Wr.ev r k).cells.toList, u.oneCell' = true from fun u hu => evc_one' [Wr.ev r k] u (by rw [evc_one]; exact hu))
            unfold Ev.cells at OW S1 OC
            clear hlen
            go_wp2_with (at_builtin; refine EE.out.wpList_append (by rfl) _ _ rfl (w.heap.size + 1) u4 (Wr.lst (Wr.nn z) r ++ Wr.evs r k).length (evc (Wr.lst (Wr.nn z) r ++ Wr.evs r k)) rfl OW.out (some ⟨W16.heap.size, 0, none⟩) 1 1 _ rfl S1.out OC.out hb1 hb2 (by simp; omega) ?_)
            intro v8 w8 hown8 hg8
            have O8 := Lib.hid (show w8.ownsRow (w.heap.size + 1) 39 12 v8 (Wr.lst (Wr.nn z) r ++ Wr.evs r (k + 1)).length (evc (Wr.lst (Wr.nn z) r ++ Wr.evs r (k + 1))) from by
              rw [Wr.evs_succ, ← List.append_assoc, evc_append, evc_one, List.length_append]
              have h := hown8
              rw [← List.length_append] at h
              exact h)
            have UA : Below w.heap.size w (W16.alloc (.cells (Wr.ev r k).cells 39)) := Below.alloc (Below.trans UU.out (V16.out.mono UU.out.size)) (Nat.le_trans UU.out.size z16) _
            have U8 := Lib.hid (show Below w.heap.size w w8 from Below.grown UA hg8 UA.size (fun q hq => by have := own_base OO.out q hq; omega))
            have K8 := Lib.hid (show Blk w8 w.heap.size (Wr.box z) 63 from ((KK.out.up V16.out).alloc (.cells (Wr.ev r k).cells 39)).grown hg8 (fun q => by have := own_base OO.out _ q.symm; omega))
            have z8 : w.heap.size + 1 ≤ w8.heap.size := by have := hg8.size; simp at this; omega
            clear hown8 hg8 UA OO KK UU OW S1 OC hb1 hb2 z16 E16 V16 a0 a1 a2 a3 a4 a5 a6 a7 a8 a9 a10 a11
            go_wp2
            go_roundw
            case rel => exact ⟨k + 1, by omega, by go_num, O8, K8, U8, z8⟩
            case measure => simp [intOf]; omega
        · obtain rfl : k = Wr.nn z r := by omega
          have OL := Lib.hid (show wr.ownsRow (w.heap.size + 1) 39 12 u4 (Wr.lst (Wr.nn z) (r + 1)).length (evc (Wr.lst (Wr.nn z) (r + 1))) from by
            have : Wr.lst (Wr.nn z) (r + 1) = Wr.lst (Wr.nn z) r ++ Wr.evs r (Wr.nn z r) := by unfold Wr.lst; rw [Wr.wrs_succ]; rfl
            rw [this]; exact OO.out)
          have BH := Lib.hid (show Wr.bh (Wr.nn z) (r + 1) = if (Wr.bh (Wr.nn z) r).2 ≤ Wr.nn z r ∧ 0 < Wr.nn z r then ((r : Int), Wr.nn z r) else Wr.bh (Wr.nn z) r from rfl)
          clear OO hmod hzr
          generalize Wr.bh (Wr.nn z) r = p at *
          obtain ⟨p1, p2⟩ := p
          by_cases q1 : p2 ≤ Wr.nn z r
          · have d1 : decide ((p2 : Int) ≤ (Wr.nn z r : Nat)) = true := decide_eq_true (by omega)
            have d1' : decide (p2 ≤ Wr.nn z r) = true := decide_eq_true q1
            by_cases q2 : 0 < Wr.nn z r
            · have d2 : decide ((0 : Int) < (Wr.nn z r : Nat)) = true := decide_eq_true (by omega)
              have d2' : decide (0 < Wr.nn z r) = true := decide_eq_true q2
              have B2 := Lib.hid (show Wr.bh (Wr.nn z) (r + 1) = ((r : Int), Wr.nn z r) by rw [BH.out, if_pos ⟨q1, q2⟩])
              clear q1 q2 BH
              go_wp2
              go_roundw
              case rel => exact ⟨r + 1, by omega, by go_num, by rw [B2.out], by rw [B2.out], OL, KK, UU, zz⟩
              case measure => simp [intOf]; omega
            · have d2 : decide ((0 : Int) < (Wr.nn z r : Nat)) = false := decide_eq_false (by omega)
              have d2' : decide (0 < Wr.nn z r) = false := decide_eq_false q2
              have B2 := Lib.hid (show Wr.bh (Wr.nn z) (r + 1) = (p1, p2) by rw [BH.out, if_neg (fun h => q2 h.2)])
              clear q1 q2 BH
              go_wp2
              go_roundw
              case rel => exact ⟨r + 1, by omega, by go_num, by rw [B2.out], by rw [B2.out], OL, KK, UU, zz⟩
              case measure => simp [intOf]; omega
          · have d1 : decide ((p2 : Int) ≤ (Wr.nn z r : Nat)) = false := decide_eq_false (by omega)
            have d1' : decide (p2 ≤ Wr.nn z r) = false := decide_eq_false q1
            have B2 := Lib.hid (show Wr.bh (Wr.nn z) (r + 1) = (p1, p2) by rw [BH.out, if_neg (fun h => q1 h.1)])
            clear q1 BH
            go_wp2
            go_roundw
            case rel => exact ⟨r + 1, by omega, by go_num, by rw [B2.out], by rw [B2.out], OL, KK, UU, zz⟩
            case measure => simp [intOf]; omega
    · obtain rfl : r = 5 := by omega
      have hlen : (Wr.lst (Wr.nn z) 5).length ≤ 1000 := by
        have := LL.out 5
        simp [Wr.lst]; omega
      obtain ⟨A, cap, rfl, hsl⟩ := Sl.of_own OO.out
      have CB := Lib.hid (book_any (Wr.lst (Wr.nn z) 5) A _ cap wr hsl (by omega) (CY.out 5))
      rw [Wr.shown] at CB
      obtain ⟨b1, b2, b3⟩ := Wr.bh_spec (Wr.nn z) 5
      have hp : ((Wr.bh (Wr.nn z) 5).1 = -1) ∨ ∃ b : Nat, b < 5 ∧ (Wr.bh (Wr.nn z) 5).1 = b ∧ 0 < (Wr.bh (Wr.nn z) 5).2 ∧ (Wr.bh (Wr.nn z) 5).2 < 8 := by
        rcases b3 with ⟨h, _⟩ | ⟨b, hb, h1, h2, h3⟩
        · exact .inl h
        · have := Wr.nn_lt z b
          exact .inr ⟨b, hb, h1, by omega, by omega⟩
      have HP := Lib.hid hp
      clear hp b1 b2 b3 hsl hlen OO LL CY EE h5
      generalize Wr.bh (Wr.nn z) 5 = p at *
      obtain ⟨p1, p2⟩ := p
      go_wp2_with fail
      refine CB.out.mono ?_
      rintro x w9 ⟨⟨A9, c9, rfl, h9⟩, hu9⟩
      obtain ⟨bb, off, A0, q0, A1, q1, rfl, k0, k1, k2, k3, k4, k5, k6, -, -⟩ := ct_at h9 (i := 0) (by simp)
      simp only [Ct.nth, List.getD_cons_zero, Nat.zero_mul, Nat.add_zero] at k0 k1 k2 k3 k4 k5 k6
      have hbb : bb < w9.heap.size := by
        obtain ⟨_, us, h2, _⟩ := h9
        obtain ⟨b', o', e, hl, _⟩ := h2.2.2.2 (by simp)
        injection e with e; injection e with e1 e2
        omega
      have U9 := Lib.hid (show Below w.heap.size w w9 from Below.trans UU.out (hu9.mono UU.out.size))
      clear h9 hu9 CB KK UU zz
      rcases HP.out with h | ⟨b, hb5, h, hp0, hp8⟩
      · have h' : p1 = -1 := h
        subst h'
        clear HP h
        go_wp2
        go_ret
        exact ⟨rfl, U9.out⟩
      · have h' : p1 = b := h
        subst h'
        have hp0' : 0 < p2 := hp0
        have hp8' : p2 < 8 := hp8
        have hf : Wr.fieldOf ((b : Int), p2) = Wr.vl b (p2 - 1) := by unfold Wr.fieldOf; rw [if_neg (by omega)]; rfl
        have hd : decide ((0 : Int) ≤ (b : Int)) = true := by simp
        have hd0 : decide ((b : Int) < 0) = false := by simp
        have e48 : (48 + (p2 : Int) - 1) = 48 + ((p2 - 1 : Nat) : Int) := by omega
        have hcv : ∀ W, W.heap[w9.heap.size]? = some (.cells #[.int .u8 (97 + (b : Int)), .int .u8 (48 + ((p2 - 1 : Nat) : Int))] 5) → (convert 33 9 (.slice (some ⟨w9.heap.size, 0, none⟩) 2 2)).run Try.prog W = .ok (.string (Wr.vl b (p2 - 1))) W := fun W hW => by
          have := conv_slc (slc_new (w := W) (g := w9.heap.size) (t := 5) (fr := (0, 0)) [97 + b, 48 + (p2 - 1)] hW (by simp; omega) (by simp))
          rw [Wr.str_vl] at this
          exact this
        have hc1 := hcv (w9.alloc (.cells #[.int .u8 (97 + (b : Int)), .int .u8 (48 + ((p2 - 1 : Nat) : Int))] 5)) (heap_alloc_new _ _)
        have hc2 := hcv (w9.alloc (.cells #[.int .u8 (97 + (b : Int)), .int .u8 (48 + ((p2 - 1 : Nat) : Int))] 5)).drew (heap_alloc_new w9 _)
        have hc3 := hc2
        rw [show (97 + (b : Int)) = IntKind.u8.wrap (IntKind.i64.wrap (97 + (b : Int))) by rw [IntWalk.i64_in _ ⟨by omega, by omega⟩, IntKind.wrap_u8]; omega, show (48 + ((p2 - 1 : Nat) : Int)) = IntKind.u8.wrap (IntKind.i64.wrap (IntKind.i64.wrap (48 + (p2 : Int)) - 1)) by rw [IntWalk.i64_in (48 + (p2 : Int)) ⟨by omega, by omega⟩, IntWalk.i64_in _ ⟨by omega, by omega⟩, IntKind.wrap_u8]; omega] at hc3
        rw [hf] at k3
        clear hcv HP h hf
        go_upto_region 25 with (fail)
        go_region
        go_wp2
        go_ret
        refine ⟨by simp, ?_⟩
        exact (U9.out.alloc U9.out.size _).drew
end Go.Proofs.Ytolpfchnfhdhkaa
