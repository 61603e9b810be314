/-
  The walks of the reference's Fit: an event that may be.
-/
import Derived.Test.YtldhmpngehlnhaaEvQ
import Derived.Test.YtldhmpngehlnhaaFit
import Derived.Deep.DeepCutAuto
namespace Go.Proofs.Ytldhmpngehlnhaa
open Go.RowKit
set_option maxRecDepth 100000

theorem edit6_any (e : Ev) (w : World) : Calls Try.prog 55 #[e.val] w fun x w' => x = .returned e.ed.val ∧ Below w.heap.size w w' := by
  have KA := Lib.hid ((Blk.new w e.cells 41).alloc (.cells noEd.cells 77))
  have KB := Lib.hid (Blk.new (w.alloc (.cells e.cells 41)) noEd.cells 77)
  have U0 := Lib.hid (show Below w.heap.size w ((w.alloc (.cells e.cells 41)).alloc (.cells noEd.cells 77)) from ((Below.refl w.heap.size w).alloc (Nat.le_refl _) _).alloc (by simp) _)
  obtain ⟨W, hW⟩ : ∃ W, W = (w.alloc (.cells e.cells 41)).alloc (.cells noEd.cells 77) := ⟨_, rfl⟩
  rw [← hW] at KA KB U0
  simp only [World.size_alloc] at KB
  obtain ⟨a0, a1, a2, a3⟩ := KA.out.kklv
  obtain ⟨e0, e1, e2, e3⟩ := KB.out.ed
  have f0 := KB.out.frozen 0; have f1 := KB.out.frozen 1; have f2 := KB.out.frozen 2; have f3 := KB.out.frozen 3
  unfold Ev.val
  go_enter Try.func55, Try.ntmps55
  go_upto_region 1 with (fail)
  refine wp_named (fun W2 hW2 => ?_)
  obtain rfl : W2 = W := by rw [hW2, hW]; rfl
  clear hW hW2
  go_wp2
  have K := KB.out.set4 (.int .i64 e.k) (.string e.key) (.int .i64 e.l) (.string e.v)
  have B := (((U0.out.setCell (p := ⟨w.heap.size + 1, 0, none⟩) (by simp) (.int .i64 e.k)).setCell (p := ⟨w.heap.size + 1, 1, none⟩) (by simp) (.string e.key)).setCell (p := ⟨w.heap.size + 1, 2, none⟩) (by simp) (.int .i64 e.l)).setCell (p := ⟨w.heap.size + 1, 3, none⟩) (by simp) (.string e.v)
  generalize World.setCell _ ⟨w.heap.size + 1, 3, none⟩ (.string e.v) = W3 at *
  have k0 := K.cell (j := 0) rfl
  have k1 := K.cell (j := 1) rfl
  have k2 := K.cell (j := 2) rfl
  have k3 := K.cell (j := 3) rfl
  exact bodyPost_ret (v := e.ed.val) (by simp [results, Try.results55, go_sem, Ed.val, Ev.ed, k0, k1, k2, k3]) rfl ⟨rfl, B⟩

/-- The first i numbers are a's, each below 2^20; behind them 0. -/
def Ev.upto (a : Ck) (i : Nat) : Ck := ⟨if 0 < i then a.c0 % 1048576 else 0, if 1 < i then a.c1 % 1048576 else 0, if 2 < i then a.c2 % 1048576 else 0, if 3 < i then a.c3 % 1048576 else 0, if 4 < i then a.c4 % 1048576 else 0⟩
theorem Ev.upto_zero (a : Ck) : Ev.upto a 0 = Ck.zero := rfl
theorem Ev.upto_set (a : Ck) (i : Nat) (h : i < 5) : (Ev.upto a i).set i (a.get i % 1048576) = Ev.upto a (i + 1) := by
  match i, h with
  | 0, _ | 1, _ | 2, _ | 3, _ | 4, _ => simp [Ck.set, Ev.upto, Ck.get]
theorem Ev.upto_get (a : Ck) (j : Nat) (h : j < 5) : 0 ≤ (Ev.upto a 5).get j ∧ (Ev.upto a 5).get j ≤ 1048575 := by
  match j, h with
  | 0, _ | 1, _ | 2, _ | 3, _ | 4, _ => simp only [Ev.upto, Ck.get]; simp; omega
theorem Ck.get_set' (c : Ck) (k j : Nat) (x : Int) (h : j < 5) : (c.set k x).get j = if j = k then x else c.get j := by
  match j, h with
  | 0, _ | 1, _ | 2, _ | 3, _ | 4, _ => simp only [Ck.set, Ck.get]; congr 1; simp [eq_comm]

def Fit6Rel (a : Ck) (b0 b1 b4 : Nat) (e0 e : Ev) (w : World) (v5 : Value) (wr : World) : Prop :=
  ∃ i : Nat, i ≤ 5 ∧ v5 = .int .i64 i ∧ Hid (Blk wr b0 e0.cells 41) ∧ Hid (Blk wr b1 Ev.zero.cells 41) ∧ Hid (Blk wr b4 (Ev.cells { e with c := Ev.upto a i }) 41) ∧ Hid (Below w.heap.size w wr)
theorem fit_r (r : Int) : ∃ q : Int, (IntKind.i64.wrap (r.tmod 5 + 5)).tmod 5 = q ∧ 0 ≤ q ∧ q < 5 := by
  have e1 : -4 ≤ r.tmod 5 ∧ r.tmod 5 ≤ 4 := by
    have h1 := Int.lt_tmod_of_pos r (b := 5) (by omega)
    have h2 := Int.tmod_lt_of_pos r (b := 5) (by omega)
    omega
  generalize r.tmod 5 = a at e1
  rw [IntWalk.i64_in (a + 5) ⟨by omega, by omega⟩, Int.tmod_eq_emod_of_nonneg (by omega)]
  exact ⟨_, rfl, by omega, by omega⟩
theorem and_20 (n : Int) : bits .and .i64 n 1048575 = n % 1048576 := and_mask n 20 (by omega) (by decide)
theorem and_24 (n : Int) : bits .and .i64 n 16777215 = n % 16777216 := and_mask n 24 (by omega) (by decide)

set_option maxRecDepth 100000 in
set_option maxHeartbeats 4000000 in
theorem fit6_any (e : Ev) (w : World) (h1 : e.key.size ≤ 140737488351232) (h3 : e.v.size ≤ 140737488351232) :
    Calls Try.prog 34 #[e.val] w fun x w' => ∃ y : Ev, Ev.Good y ∧ x = .returned y.val ∧ Below w.heap.size w w' := by
  have CE := Lib.hid (fun w => edit6_any e w)
  have CF := Lib.hid (fun w => fit_any e.ed w h1 h3)
  clear h1 h3
  have KA := Lib.hid ((Blk.new w e.cells 41).alloc (.cells Ev.zero.cells 41))
  have KB := Lib.hid (Blk.new (w.alloc (.cells e.cells 41)) Ev.zero.cells 41)
  have U0 := Lib.hid (show Below w.heap.size w ((w.alloc (.cells e.cells 41)).alloc (.cells Ev.zero.cells 41)) from ((Below.refl w.heap.size w).alloc (Nat.le_refl _) _).alloc (by simp) _)
  obtain ⟨W, hW⟩ : ∃ W, W = (w.alloc (.cells e.cells 41)).alloc (.cells Ev.zero.cells 41) := ⟨_, rfl⟩
  rw [← hW] at KA KB U0
  simp only [World.size_alloc] at KB
  obtain ⟨k0, k1, k2, k3, k4, k5, k6, k7, k8, k9, k10, k11⟩ := Blk.all W KA.out
  unfold Ev.val at *
  go_enter Try.func34, Try.ntmps34
  go_upto_region 1 with (fail)
  refine wp_named (fun W2 hW2 => ?_)
  obtain rfl : W2 = W := by rw [hW2, hW]; rfl
  clear hW hW2
  go_wp2_with fail
  refine (CE.out _).mono ?_
  rintro x w1 ⟨rfl, hb1⟩
  clear k0 k1 k2 k3 k4 k5 k6 k7 k8 k9 k10 k11
  go_wp2_with fail
  refine (CF.out _).mono ?_
  rintro x w2 ⟨⟨yk, ykey, yl, yv⟩, hy, rfl, hb2⟩
  simp only [Ed.val]
  have u2 : Lex.Up W2 w2 := Lex.Up.trans hb1 hb2
  have KA2 := Lib.hid ((KA.out.up u2).alloc (.cells (Ed.cells ⟨yk, ykey, yl, yv⟩) 77))
  have KB2 := Lib.hid ((KB.out.up u2).alloc (.cells (Ed.cells ⟨yk, ykey, yl, yv⟩) 77))
  have KY := Lib.hid (Blk.new w2 (Ed.cells ⟨yk, ykey, yl, yv⟩) 77)
  have U2 := Lib.hid (show Below w.heap.size w (w2.alloc (.cells (Ed.cells ⟨yk, ykey, yl, yv⟩) 77)) from (U0.out.trans (u2.mono U0.out.size)).alloc (Nat.le_trans U0.out.size u2.size) _)
  have HY := Lib.hid hy
  have S2 : w.heap.size + 1 < w2.heap.size := (KB.out.up u2).lt
  clear hb1 hb2 u2 KA KB U0 CE CF hy
  obtain ⟨W, hW⟩ : ∃ W, W = w2.alloc (.cells (Ed.cells ⟨yk, ykey, yl, yv⟩) 77) := ⟨_, rfl⟩
  rw [← hW] at KA2 KB2 KY U2
  have SW : W.heap.size = w2.heap.size + 1 := by rw [hW]; simp
  go_upto_region 2 with (fail)
  refine wp_named (fun W3 hW3 => ?_)
  obtain rfl : W3 = W := by rw [hW3, hW]; rfl
  clear hW hW3
  obtain ⟨a0, a1⟩ := KA2.out.rn
  obtain ⟨a7, _⟩ := KA2.out.hk
  obtain ⟨y0, y1, y2, y3⟩ := KY.out.ed
  obtain ⟨q, hq, hq0, hq5⟩ := fit_r e.r
  go_wp2
  rw [and_20, and_24]
  have n1 : wrap64 (1 + e.n % 1048576) = 1 + e.n % 1048576 := by rw [← IntWalk.i64_left]; exact IntWalk.i64_in _ ⟨by omega, by omega⟩
  have n2 : wrap64 (1 + e.h % 16777216) = 1 + e.h % 16777216 := by rw [← IntWalk.i64_left]; exact IntWalk.i64_in _ ⟨by omega, by omega⟩
  rw [IntWalk.i64_left] at hq
  rw [n1, n2, hq]
  have N1 : 1 ≤ 1 + e.n % 1048576 ∧ 1 + e.n % 1048576 ≤ 1048576 := by omega
  have H1 := Lib.hid (show 1 ≤ 1 + e.h % 16777216 ∧ 1 + e.h % 16777216 ≤ 16777216 by omega)
  clear n1 n2 hq a0 a1 a7 y0 y1 y2 y3
  generalize 1 + e.n % 1048576 = N at *
  generalize 1 + e.h % 16777216 = H at *
  have J0 := Lib.hid (KA2.out.alloc (.cells (Ev.cells ⟨q, N, Ck.zero, H, yk, ykey, yl, yv⟩) 41))
  have J1 := Lib.hid (KB2.out.alloc (.cells (Ev.cells ⟨q, N, Ck.zero, H, yk, ykey, yl, yv⟩) 41))
  have J4 := Lib.hid (Blk.new W3 (Ev.cells ⟨q, N, Ck.zero, H, yk, ykey, yl, yv⟩) 41)
  have JU := Lib.hid (U2.out.alloc U2.out.size (.cells (Ev.cells ⟨q, N, Ck.zero, H, yk, ykey, yl, yv⟩) 41))
  have h0 : Fit6Rel e.c w.heap.size (w.heap.size + 1) (w2.heap.size + 1) e ⟨q, N, Ck.zero, H, yk, ykey, yl, yv⟩ w (.int .i64 0) (W3.alloc (.cells (Ev.cells ⟨q, N, Ck.zero, H, yk, ykey, yl, yv⟩) 41)) :=
    ⟨0, by omega, rfl, J0, J1, Lib.hid (by rw [← SW]; exact J4.out), JU⟩
  have HZ := Lib.hid h0
  clear h0 J0 J1 J4 JU KA2 KB2 KY U2
  go_loopw [5] (fun v5 wr => Fit6Rel e.c w.heap.size (w.heap.size + 1) (w2.heap.size + 1) e ⟨q, N, Ck.zero, H, yk, ykey, yl, yv⟩ w v5 wr) (fun v5 _ => 5 - (intOf v5).toNat)
  case atStart => exact HZ.out
  case round =>
    obtain ⟨i, hi, rfl, J0, J1, J4, JU⟩ := hrel
    clear HZ
    by_cases h5 : i < 5
    · have h5' : (i : Int) < 5 := by omega
      have a0 := J0.out.at_ h5
      have a1 : wr.cell? ⟨w2.heap.size + 1, 2 + i, none⟩ = some (.int .i64 ((Ev.upto e.c i).get i)) := J4.out.at_ h5
      have a2 := J4.out.frozen (2 + i)
      go_wp2
      rw [and_20]
      go_roundw
      case rel =>
        refine ⟨i + 1, by omega, by go_num, Lib.hid (J0.out.other (p := ⟨w2.heap.size + 1, 2 + i, none⟩) (by simp; omega) _), Lib.hid (J1.out.other (p := ⟨w2.heap.size + 1, 2 + i, none⟩) (by simp; omega) _), Lib.hid ?_, Lib.hid (JU.out.setCell (p := ⟨w2.heap.size + 1, 2 + i, none⟩) (by simp; omega) _)⟩
        have h1 := J4.out.set (2 + i) (.int .i64 (e.c.get i % 1048576))
        rw [← Ev.upto_set e.c i h5]
        have h2 : (Ev.cells { r := q, n := N, c := Ev.upto e.c i, h := H, k := yk, key := ykey, l := yl, v := yv }).setIfInBounds (2 + i) (.int .i64 (e.c.get i % 1048576)) = Ev.cells { r := q, n := N, c := (Ev.upto e.c i).set i (e.c.get i % 1048576), h := H, k := yk, key := ykey, l := yl, v := yv } := by
          match i, h5 with
          | 0, _ | 1, _ | 2, _ | 3, _ | 4, _ => rfl
        rw [← h2]; exact h1
      case measure => simp [intOf]; omega
    · obtain rfl : i = 5 := by omega
      clear hi h5
      obtain ⟨r, rfl, hr5⟩ : ∃ r : Nat, q = r ∧ r < 5 := ⟨q.toNat, by omega, by omega⟩
      have a0 : wr.cell? ⟨w2.heap.size + 1, 0, none⟩ = some (.int .i64 (r : Nat)) := J4.out.cell rfl
      have a1 : wr.cell? ⟨w2.heap.size + 1, 1, none⟩ = some (.int .i64 N) := J4.out.cell rfl
      have a2 : wr.cell? ⟨w2.heap.size + 1, 2 + r, none⟩ = some (.int .i64 ((Ev.upto e.c 5).get r)) := J4.out.at_ hr5
      have a3 := J4.out.frozen (2 + r)
      have n1 : IntKind.i64.wrap (N - 1) = N - 1 := IntWalk.i64_in _ ⟨by omega, by omega⟩
      have hr5' : (r : Int) < 5 := by omega
      go_upto_region 8 with (fail)
      refine wp_named (fun W hW => ?_)
      have K4 := Lib.hid (show Blk W (w2.heap.size + 1) (Ev.cells ⟨r, N, (Ev.upto e.c 5).set r (N - 1), H, yk, ykey, yl, yv⟩) 41 by
        have h1 := J4.out.set (2 + r) (.int .i64 (N - 1))
        rw [← hW] at h1
        have h2 : (Ev.cells { r := r, n := N, c := Ev.upto e.c 5, h := H, k := yk, key := ykey, l := yl, v := yv }).setIfInBounds (2 + r) (.int .i64 (N - 1)) = Ev.cells ⟨r, N, (Ev.upto e.c 5).set r (N - 1), H, yk, ykey, yl, yv⟩ := by
          match r, hr5 with
          | 0, _ | 1, _ | 2, _ | 3, _ | 4, _ => rfl
        rw [← h2]; exact h1)
      have K1 := Lib.hid (show Blk W (w.heap.size + 1) Ev.zero.cells 41 by rw [hW]; exact J1.out.other (p := ⟨w2.heap.size + 1, 2 + r, none⟩) (by simp; omega) _)
      have KU := Lib.hid (show Below w.heap.size w W by rw [hW]; exact JU.out.setCell (p := ⟨w2.heap.size + 1, 2 + r, none⟩) (by simp; omega) _)
      have G : Ev.Good ⟨r, N, (Ev.upto e.c 5).set r (N - 1), H, yk, ykey, yl, yv⟩ := by
        obtain ⟨y1, y2, y3, y4, y5⟩ := HY.out
        refine ⟨by simp, by simpa using hr5', N1.1, N1.2, fun j hj => ?_, ?_, H1.out.1, H1.out.2, Ev.edit_of y1 y2 y3 (fun h => ⟨(y4 h).1, by have h9 : yv = ByteArray.mk #[] := (y4 h).2; show yv.size = 0; rw [h9]; rfl⟩) y5⟩
        · simp only
          rw [Ck.get_set' _ _ _ _ hj]
          have := Ev.upto_get e.c j hj
          split <;> omega
        · simp only [Int.toNat_natCast]
          rw [Ck.get_set' _ _ _ _ hr5, if_pos rfl]
      have HG := Lib.hid G
      clear hW a0 a1 a2 a3 n1 J0 J1 J4 JU G HY H1 N1
      generalize hE : Ev.mk (r : Nat) N ((Ev.upto e.c 5).set r (N - 1)) H yk ykey yl yv = E at *
      obtain ⟨k0, k1, k2, k3, k4, k5, k6, k7, k8, k9, k10, k11⟩ := Blk.all W K4.out
      obtain ⟨j0, j1, j2, j3, j4, j5, j6, j7, j8, j9, j10, j11⟩ := Blk.all W K1.out
      have f := K1.out.frozen
      have f0 := f 0; have f1 := f 1; have f2 := f 2; have f3 := f 3; have f4 := f 4; have f5 := f 5; have f6 := f 6; have f7 := f 7; have f8 := f 8; have f9 := f 9; have f10 := f 10; have f11 := f 11
      clear f hE
      go_wp2
      change bodyPost _ _ _ _ _ (put12 W (w.heap.size + 1) E)
      have K := put12_blk K1.out E
      have BB := put12_below KU.out (Nat.le_succ w.heap.size) E
      generalize put12 W (w.heap.size + 1) E = W5 at *
      obtain ⟨k0', k1', k2', k3', k4', k5', k6', k7', k8', k9', k10', k11'⟩ := Blk.all W5 K
      exact bodyPost_ret (v := Ev.val E) (by simp [results, Try.results34, go_sem, Ev.val, k0', k1', k2', k3', k4', k5', k6', k7', k8', k9', k10', k11']) rfl ⟨E, HG.out, rfl, BB⟩
end Go.Proofs.Ytldhmpngehlnhaa
