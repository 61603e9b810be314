/-
  The walk of the reference's Fit: a frame that may be.
-/
import Derived.Test.YtldhmpngehlnhaaFrB
import Derived.Test.YtldhmpngehlnhaaEvF
namespace Go.Proofs.Ytldhmpngehlnhaa
open Go.RowKit
set_option maxRecDepth 100000

/-- So far the clock's numbers were kept. -/
def FitCkRel (B : Nat) (k r : Int) (a : Ck) (f : Fr) (s : Value) (w : World) (v4 : Value) (wr : World) : Prop :=
  ∃ i : Nat, i ≤ 5 ∧ v4 = .int .i64 i ∧ Hid (Blk wr B (f.cells s) 26) ∧ Hid (Blk wr (B + 1) (Fr.zero.cells (.slice none 0 0)) 26) ∧ Hid (Blk wr (B + 2) (Fr.cells ⟨k, r, 0, Ev.upto a i, []⟩ (.slice none 0 0)) 26) ∧ Hid (Below B w wr)
/-- So far the events were kept. -/
def FitEvRel (B n : Nat) (k r : Int) (f : Fr) (s : Value) (w : World) (v5 : Value) (wr : World) : Prop :=
  ∃ (i : Nat) (v : Value) (es : List Ev), i ≤ n ∧ i ≤ 20 ∧ v5 = .int .i64 i ∧ es.length = i ∧ Hid (Blk wr B (f.cells s) 26) ∧ Hid (Blk wr (B + 1) (Fr.zero.cells (.slice none 0 0)) 26) ∧
    Hid (Blk wr (B + 2) (Fr.cells ⟨k, r, 0, Ck.zero, es⟩ v) 26) ∧ Hid (OwnE wr (B + 3) v es) ∧ Hid (∀ e ∈ es, Ev.Good e ∧ (k = 1 → e.r = r)) ∧ Hid (Below B w wr)
theorem push_good {y : Ev} {j r : Nat} (g : Ev.Good y) (hr : r < 5) : Ev.Good { y with r := r, c := (y.c.set j 0).set r (y.n - 1) } := by
  have g1 := g.n1; have g2 := g.nM
  refine ⟨by simp, by simp only; omega, g.n1, g.nM, fun k hk => ?_, ?_, g.h1, g.hM, g.ed⟩
  · simp only
    rw [Ck.get_set' _ _ _ _ hk, Ck.get_set' _ _ _ _ hk]
    have := g.c k hk
    split
    · omega
    · split <;> omega
  · simp only [Int.toNat_natCast]
    rw [Ck.get_set' _ _ _ _ hr, if_pos rfl]
set_option maxRecDepth 100000 in
set_option maxHeartbeats 4000000 in
theorem fit7_any (f : Fr) (A : Option Addr) (n cap : Nat) (w : World) (h : EvSl w A n cap f.es) (hs : ∀ e ∈ f.es, e.key.size ≤ 140737488351232 ∧ e.v.size ≤ 140737488351232) :
    Calls Try.prog 18 #[f.val (.slice A n cap)] w (RetFr w Fr.Good) := by
  have C6 := Lib.hid (fun e w h1 h3 => fit6_any e w h1 h3)
  unfold Ev.val at C6
  have SL := Lib.hid (fun w' (hu : Lex.Up w w') => EvSl.up h hu)
  have NL := Lib.hid h.len
  have AD := Lib.hid h.addr
  have HS := Lib.hid hs
  have K0 := Lib.hid ((Blk.new w (f.cells (.slice A n cap)) 26).alloc (.cells (Fr.zero.cells (.slice none 0 0)) 26))
  have K1 := Lib.hid (Blk.new (w.alloc (.cells (f.cells (.slice A n cap)) 26)) (Fr.zero.cells (.slice none 0 0)) 26)
  have U0 := Lib.hid (show Lex.Up w ((w.alloc (.cells (f.cells (.slice A n cap)) 26)).alloc (.cells (Fr.zero.cells (.slice none 0 0)) 26)) from up_blk (up_blk (Lex.Up.refl w)))
  obtain ⟨W, hW⟩ : ∃ W, W = (w.alloc (.cells (f.cells (.slice A n cap)) 26)).alloc (.cells (Fr.zero.cells (.slice none 0 0)) 26) := ⟨_, rfl⟩
  have ZW : W.heap.size = w.heap.size + 2 := by rw [hW]; simp
  rw [← hW] at K0 K1 U0
  simp only [World.size_alloc] at K1
  have ZH := Lib.hid ZW
  clear h hs
  unfold Fr.val
  go_enter Try.func18, Try.ntmps18
  go_upto_region 1 with (fail)
  refine wp_named (fun W2 hW2 => ?_)
  obtain rfl : W2 = W := by rw [hW2, hW]; rfl
  clear hW hW2
  obtain ⟨a0, a1, a2, a3, a4, a5, a6, a7, a8⟩ := (K0.out).fr
  obtain ⟨q, hq, hq0, hq5⟩ := fit_r f.k
  obtain ⟨r, hr, hr0, hr5⟩ := fit_r f.r
  rw [IntWalk.i64_left] at hq hr
  go_upto_region 2 with (fail)
  refine wp_named (fun W hW => ?_)
  have hW' : W = W2.alloc (.cells (Fr.cells ⟨1 + q, r, 0, Ck.zero, []⟩ (.slice none 0 0)) 26) := hW
  have L0 := Lib.hid (show Blk W w.heap.size (f.cells (.slice A n cap)) 26 by rw [hW']; exact K0.out.alloc _)
  have L1 := Lib.hid (show Blk W (w.heap.size + 1) (Fr.zero.cells (.slice none 0 0)) 26 by rw [hW']; exact K1.out.alloc _)
  have L2 := Lib.hid (show Blk W (w.heap.size + 2) (Fr.cells ⟨1 + q, r, 0, Ck.zero, []⟩ (.slice none 0 0)) 26 by rw [hW', ← ZW]; exact Blk.new W2 _ _)
  have UU := Lib.hid (show Lex.Up w W by rw [hW']; exact up_blk U0.out)
  clear hW hW' K0 K1 U0 ZH ZW a0 a1 a2 a3 a4 a5 a6 a7 a8 hq hr
  have hk0 : 1 ≤ 1 + q := by omega
  have hk5 : 1 + q ≤ 5 := by omega
  clear hq0 hq5
  generalize 1 + q = k at *
  by_cases k2 : k = 2
  · subst k2
    clear C6 SL NL AD HS
    obtain ⟨a0, a1, a2, a3, a4, a5, a6, a7, a8⟩ := L0.out.fr
    obtain ⟨b0, b1, b2, b3, b4, b5, b6, b7, b8⟩ := L2.out.fr
    have g2 := L2.out.frozen 2
    go_upto_region 22 with (fail)
    rw [and_20]
    refine wp_named (fun W4 hW4 => ?_)
    have M0 := Lib.hid (show Blk W4 (w.heap.size + 1) (Fr.zero.cells (.slice none 0 0)) 26 by rw [hW4]; exact L1.out.other (p := ⟨w.heap.size + 2, 2, none⟩) (by simp) _)
    have M2 := Lib.hid (show Blk W4 (w.heap.size + 2) (Fr.cells ⟨2, r, f.u % 1048576, Ck.zero, []⟩ (.slice none 0 0)) 26 by rw [hW4]; exact L2.out.set 2 _)
    have MU := Lib.hid (show Below w.heap.size w W4 by rw [hW4]; exact UU.out.setCell (p := ⟨w.heap.size + 2, 2, none⟩) (by simp) _)
    have G : Fr.Good ⟨2, r, f.u % 1048576, Ck.zero, []⟩ := ⟨hr0, hr5, .inr (.inl rfl), fun h => by simp at h, fun h => by simp at h, fun _ => ⟨by simp only; omega, by simp only; omega, rfl, rfl⟩, fun h => by simp at h⟩
    have HG := Lib.hid G
    have O := Lib.hid (OwnE.nil W4 (w.heap.size + 3))
    clear hW4 a0 a1 a2 a3 a4 a5 a6 a7 a8 b0 b1 b2 b3 b4 b5 b6 b7 b8 g2 L0 L1 L2 UU G
    generalize hgg : Fr.mk 2 r (f.u % 1048576) Ck.zero [] = g at *
    have eg : g.es = [] := by rw [← hgg]
    have O' := Lib.hid (show OwnE W4 (w.heap.size + 3) (.slice none 0 0) g.es by rw [eg]; exact O.out)
    clear hgg O eg
    obtain ⟨v, hv⟩ : ∃ v, v = Value.slice none 0 0 := ⟨_, rfl⟩
    rw [← hv] at M2 O'
    clear hv
    obtain ⟨A9, cap9, rfl, -⟩ := (O'.out).sl
    obtain ⟨k0, k1, k2, k3, k4, k5, k6, k7, k8⟩ := (M2.out).fr
    obtain ⟨j0, j1, j2, j3, j4, j5, j6, j7, j8⟩ := (M0.out).fr
    have f := (M0.out).frozen
    have f0 := f 0; have f1 := f 1; have f2 := f 2; have f3 := f 3; have f4 := f 4; have f5 := f 5; have f6 := f 6; have f7 := f 7; have f8 := f 8
    clear f
    go_wp2
    change bodyPost _ _ _ _ _ (put9 W4 (w.heap.size + 1) g _)
    have K := put9_blk (M0.out) g (.slice A9 (g).es.length cap9)
    have BB := put9_below (MU.out) (Nat.le_succ w.heap.size) g (.slice A9 (g).es.length cap9)
    have OZ := (O'.out).by_ (put9_by W4 (w.heap.size + 1) g (.slice A9 (g).es.length cap9)) (by omega)
    obtain ⟨A8, cap8, e8, SZ⟩ := OZ.sl
    injection e8 with e81 _ e83
    subst e81 e83
    generalize put9 W4 (w.heap.size + 1) g (.slice A9 (g).es.length cap9) = W5 at *
    obtain ⟨k0', k1', k2', k3', k4', k5', k6', k7', k8'⟩ := K.fr
    refine bodyPost_ret (v := Fr.val g (.slice A9 (g).es.length cap9)) (by simp [results, Try.results18, go_sem, Fr.val, k0', k1', k2', k3', k4', k5', k6', k7', k8']) rfl ⟨g, A9, cap9, HG.out, rfl, SZ, BB⟩
  have d2 : (k == 2) = false := by simpa using k2
  by_cases k35 : k = 3 ∨ k = 5
  · clear C6 SL NL AD HS
    obtain ⟨a0, a1, a2, a3, a4, a5, a6, a7, a8⟩ := L0.out.fr
    obtain ⟨b0, b1, b2, b3, b4, b5, b6, b7, b8⟩ := L2.out.fr
    rcases k35 with rfl | rfl
    · clear a0 a1 a2 a3 a4 a5 a6 a7 a8
      go_upto_region 18 with (fail)
      clear b0 b1 b2 b3 b4 b5 b6 b7 b8
      go_wp2_with fail
      go_loopw [4] (fun v4 wr => FitCkRel w.heap.size 3 r f.c f (.slice A n cap) w v4 wr) (fun v4 _ => 5 - (intOf v4).toNat)
      case atStart => exact ⟨0, by omega, rfl, L0, L1, L2, UU⟩
      case round =>
        obtain ⟨i, hi, rfl, J0, J1, J2, JU⟩ := hrel
        clear L0 L1 L2 UU
        by_cases h5 : i < 5
        · have h5' : (i : Int) < 5 := by omega
          have a0 := J0.out.frClk h5
          have a1 := J2.out.frClk h5
          have a2 := J2.out.frozen (3 + i)
          go_wp2
          rw [and_20]
          go_roundw
          case rel =>
            refine ⟨i + 1, by omega, by go_num, Lib.hid (J0.out.other (p := ⟨w.heap.size + 2, 3 + i, none⟩) (by simp) _), Lib.hid (J1.out.other (p := ⟨w.heap.size + 2, 3 + i, none⟩) (by simp) _), Lib.hid ?_, Lib.hid (JU.out.setCell (p := ⟨w.heap.size + 2, 3 + i, none⟩) (by simp) _)⟩
            have h1 := J2.out.set (3 + i) (.int .i64 (f.c.get i % 1048576))
            rw [← Ev.upto_set f.c i h5]
            have h2 : (Fr.cells ⟨3, r, 0, Ev.upto f.c i, []⟩ (.slice none 0 0)).setIfInBounds (3 + i) (.int .i64 (f.c.get i % 1048576)) = Fr.cells ⟨3, r, 0, (Ev.upto f.c i).set i (f.c.get i % 1048576), []⟩ (.slice none 0 0) := by
              match i, h5 with
              | 0, _ | 1, _ | 2, _ | 3, _ | 4, _ => rfl
            rw [← h2]; exact h1
          case measure => simp [intOf]; omega
        · obtain rfl : i = 5 := by omega
          clear hi h5
          have G : Fr.Good ⟨3, r, 0, Ev.upto f.c 5, []⟩ := ⟨hr0, hr5, by simp, fun h => by simp at h, fun h => by simp at h, fun h => by simp at h, fun _ => ⟨rfl, fun j hj => by have := Ev.upto_get f.c j hj; simp only; omega, rfl⟩⟩
          have HG := Lib.hid G
          have O := Lib.hid (OwnE.nil wr (w.heap.size + 3))
          clear G J0
          generalize hgg : Fr.mk 3 r 0 (Ev.upto f.c 5) [] = g at *
          have eg : g.es = [] := by rw [← hgg]
          have O' := Lib.hid (show OwnE wr (w.heap.size + 3) (.slice none 0 0) g.es by rw [eg]; exact O.out)
          clear hgg O eg
          obtain ⟨v, hv⟩ : ∃ v, v = Value.slice none 0 0 := ⟨_, rfl⟩
          rw [← hv] at J2 O'
          clear hv
          go_upto_region 22 with (fail)
          obtain ⟨A9, cap9, rfl, -⟩ := (O'.out).sl
          obtain ⟨k0, k1, k2, k3, k4, k5, k6, k7, k8⟩ := (J2.out).fr
          obtain ⟨j0, j1, j2, j3, j4, j5, j6, j7, j8⟩ := (J1.out).fr
          have f := (J1.out).frozen
          have f0 := f 0; have f1 := f 1; have f2 := f 2; have f3 := f 3; have f4 := f 4; have f5 := f 5; have f6 := f 6; have f7 := f 7; have f8 := f 8
          clear f
          go_wp2
          change bodyPost _ _ _ _ _ (put9 wr (w.heap.size + 1) g _)
          have K := put9_blk (J1.out) g (.slice A9 (g).es.length cap9)
          have BB := put9_below (JU.out) (Nat.le_succ w.heap.size) g (.slice A9 (g).es.length cap9)
          have OZ := (O'.out).by_ (put9_by wr (w.heap.size + 1) g (.slice A9 (g).es.length cap9)) (by omega)
          obtain ⟨A8, cap8, e8, SZ⟩ := OZ.sl
          injection e8 with e81 _ e83
          subst e81 e83
          generalize put9 wr (w.heap.size + 1) g (.slice A9 (g).es.length cap9) = W5 at *
          obtain ⟨k0', k1', k2', k3', k4', k5', k6', k7', k8'⟩ := K.fr
          refine bodyPost_ret (v := Fr.val g (.slice A9 (g).es.length cap9)) (by simp [results, Try.results18, go_sem, Fr.val, k0', k1', k2', k3', k4', k5', k6', k7', k8']) rfl ⟨g, A9, cap9, HG.out, rfl, SZ, BB⟩
    · clear a0 a1 a2 a3 a4 a5 a6 a7 a8
      go_upto_region 18 with (fail)
      clear b0 b1 b2 b3 b4 b5 b6 b7 b8
      go_wp2_with fail
      go_loopw [4] (fun v4 wr => FitCkRel w.heap.size 5 r f.c f (.slice A n cap) w v4 wr) (fun v4 _ => 5 - (intOf v4).toNat)
      case atStart => exact ⟨0, by omega, rfl, L0, L1, L2, UU⟩
      case round =>
        obtain ⟨i, hi, rfl, J0, J1, J2, JU⟩ := hrel
        clear L0 L1 L2 UU
        by_cases h5 : i < 5
        · have h5' : (i : Int) < 5 := by omega
          have a0 := J0.out.frClk h5
          have a1 := J2.out.frClk h5
          have a2 := J2.out.frozen (3 + i)
          go_wp2
          rw [and_20]
          go_roundw
          case rel =>
            refine ⟨i + 1, by omega, by go_num, Lib.hid (J0.out.other (p := ⟨w.heap.size + 2, 3 + i, none⟩) (by simp) _), Lib.hid (J1.out.other (p := ⟨w.heap.size + 2, 3 + i, none⟩) (by simp) _), Lib.hid ?_, Lib.hid (JU.out.setCell (p := ⟨w.heap.size + 2, 3 + i, none⟩) (by simp) _)⟩
            have h1 := J2.out.set (3 + i) (.int .i64 (f.c.get i % 1048576))
            rw [← Ev.upto_set f.c i h5]
            have h2 : (Fr.cells ⟨5, r, 0, Ev.upto f.c i, []⟩ (.slice none 0 0)).setIfInBounds (3 + i) (.int .i64 (f.c.get i % 1048576)) = Fr.cells ⟨5, r, 0, (Ev.upto f.c i).set i (f.c.get i % 1048576), []⟩ (.slice none 0 0) := by
              match i, h5 with
              | 0, _ | 1, _ | 2, _ | 3, _ | 4, _ => rfl
            rw [← h2]; exact h1
          case measure => simp [intOf]; omega
        · obtain rfl : i = 5 := by omega
          clear hi h5
          have G : Fr.Good ⟨5, r, 0, Ev.upto f.c 5, []⟩ := ⟨hr0, hr5, by simp, fun h => by simp at h, fun h => by simp at h, fun h => by simp at h, fun _ => ⟨rfl, fun j hj => by have := Ev.upto_get f.c j hj; simp only; omega, rfl⟩⟩
          have HG := Lib.hid G
          have O := Lib.hid (OwnE.nil wr (w.heap.size + 3))
          clear G J0
          generalize hgg : Fr.mk 5 r 0 (Ev.upto f.c 5) [] = g at *
          have eg : g.es = [] := by rw [← hgg]
          have O' := Lib.hid (show OwnE wr (w.heap.size + 3) (.slice none 0 0) g.es by rw [eg]; exact O.out)
          clear hgg O eg
          obtain ⟨v, hv⟩ : ∃ v, v = Value.slice none 0 0 := ⟨_, rfl⟩
          rw [← hv] at J2 O'
          clear hv
          go_upto_region 22 with (fail)
          obtain ⟨A9, cap9, rfl, -⟩ := (O'.out).sl
          obtain ⟨k0, k1, k2, k3, k4, k5, k6, k7, k8⟩ := (J2.out).fr
          obtain ⟨j0, j1, j2, j3, j4, j5, j6, j7, j8⟩ := (J1.out).fr
          have f := (J1.out).frozen
          have f0 := f 0; have f1 := f 1; have f2 := f 2; have f3 := f 3; have f4 := f 4; have f5 := f 5; have f6 := f 6; have f7 := f 7; have f8 := f 8
          clear f
          go_wp2
          change bodyPost _ _ _ _ _ (put9 wr (w.heap.size + 1) g _)
          have K := put9_blk (J1.out) g (.slice A9 (g).es.length cap9)
          have BB := put9_below (JU.out) (Nat.le_succ w.heap.size) g (.slice A9 (g).es.length cap9)
          have OZ := (O'.out).by_ (put9_by wr (w.heap.size + 1) g (.slice A9 (g).es.length cap9)) (by omega)
          obtain ⟨A8, cap8, e8, SZ⟩ := OZ.sl
          injection e8 with e81 _ e83
          subst e81 e83
          generalize put9 wr (w.heap.size + 1) g (.slice A9 (g).es.length cap9) = W5 at *
          obtain ⟨k0', k1', k2', k3', k4', k5', k6', k7', k8'⟩ := K.fr
          refine bodyPost_ret (v := Fr.val g (.slice A9 (g).es.length cap9)) (by simp [results, Try.results18, go_sem, Fr.val, k0', k1', k2', k3', k4', k5', k6', k7', k8']) rfl ⟨g, A9, cap9, HG.out, rfl, SZ, BB⟩
  have k14 : k = 1 ∨ k = 4 := by omega
  clear k2 d2 k35 hk0 hk5
  rcases k14 with rfl | rfl
  · have k1 : ((1 : Int) == 1) = decide ((1 : Int) = 1) := rfl
    obtain ⟨a0, a1, a2, a3, a4, a5, a6, a7, a8⟩ := L2.out.fr
    go_upto_region 3 with (fail)
    clear a0 a1 a2 a3 a4 a5 a6 a7 a8
    go_wp2_with fail
    have O0 := Lib.hid (OwnE.nil W (w.heap.size + 3))
    go_loopw [5] (fun v5 wr => FitEvRel w.heap.size n 1 r f (.slice A n cap) w v5 wr) (fun v5 _ => 20 - (intOf v5).toNat)
    case atStart => exact ⟨0, _, [], by omega, by omega, rfl, rfl, L0, L1, L2, O0, Lib.hid (fun e he => by cases he), UU⟩
    case round =>
      obtain ⟨i, v, es, hi, hi20, rfl, hes, J0, J1, J2, O1, HGs, JU⟩ := hrel
      clear L0 L1 L2 UU O0
      have z2 := J2.out.lt
      have hin : (i : Int) < n ∨ ¬ (i : Int) < n := by omega
      obtain ⟨a0, a1, a2, a3, a4, a5, a6, a7, a8⟩ := J0.out.fr
      by_cases h5 : i < n ∧ i < 20
      · obtain ⟨h5, h6⟩ := h5
        have h5' : (i : Int) < n := by omega
        have h6' : (i : Int) < 20 := by omega
        obtain ⟨bl, off, rfl⟩ := AD.out (by omega)
        obtain ⟨e0, e1, e2, e3, e4, e5, e6, e7, e8, e9, e10, e11⟩ := ev_at (SL.out wr JU.out) h5
        have HE := Lib.hid (HS.out _ (Fr.nth_mem (k := i) (by rw [NL.out]; exact h5)))
        generalize Ev.nth f.es i = e at e0 e1 e2 e3 e4 e5 e6 e7 e8 e9 e10 e11 HE
        go_wp2_with fail
        refine (C6.out e _ HE.out.1 HE.out.2).mono ?_
        rintro x w6 ⟨y, hy, rfl, hb6⟩
        clear e0 e1 e2 e3 e4 e5 e6 e7 e8 e9 e10 e11 HE a0 a1 a2 a3 a4 a5 a6 a7 a8
        have GE := Lib.hid hy
        have N0 := Lib.hid ((J0.out.up hb6).alloc (.cells y.cells 41)); have N1 := Lib.hid ((J1.out.up hb6).alloc (.cells y.cells 41)); have N2 := Lib.hid ((J2.out.up hb6).alloc (.cells y.cells 41))
        have KE := Lib.hid (Blk.new w6 y.cells 41)
        have O7 := Lib.hid ((O1.out.up hb6).up (up_blk (cs := y.cells) (t := 41) (Lex.Up.refl w6)))
        have UN := Lib.hid (show Below w.heap.size w (w6.alloc (.cells y.cells 41)) from (JU.out.trans (hb6.mono JU.out.size)).alloc (Nat.le_trans JU.out.size hb6.size) _)
        have zb : w.heap.size + 2 < w6.heap.size := (J2.out.up hb6).lt
        have HV := Lib.hid (show v.ownBlock = none ∨ v.ownBlock ≠ some w6.heap.size from by
          have := O1.out.lt
          rcases hv : v.ownBlock with _ | g
          · exact .inl rfl
          · refine .inr fun e => ?_
            have h1 := (this g hv).2
            have h2 := hb6.size
            simp at e
            omega)
        clear hy hb6 J0 J1 J2 O1 JU z2
        go_upto_region 7 with (fail)
        refine wp_named (fun W7 hW7 => ?_)
        have hW7' : W7 = w6.alloc (.cells y.cells 41) := hW7
        rw [← hW7'] at N0 N1 N2 KE O7 UN
        clear hW7 hW7'
        obtain ⟨b6, hb6⟩ : ∃ b6, b6 = w6.heap.size := ⟨_, rfl⟩
        rw [← hb6] at KE HV zb ⊢
        clear hb6
        have b0 : W7.cell? ⟨w.heap.size + 2, 0, none⟩ = some (.int .i64 1) := N2.out.cell rfl
        obtain ⟨j, hj⟩ : ∃ j : Nat, y.r = j := ⟨y.r.toNat, by have := GE.out.r0; omega⟩
        obtain ⟨rn, rfl⟩ : ∃ rn : Nat, r = rn := ⟨r.toNat, by omega⟩
        have hj5 : j < 5 := by have := GE.out.r5; omega
        have hr5' : rn < 5 := by omega
        have GY := Lib.hid (show Ev.Good { y with r := rn, c := (y.c.set j 0).set rn (y.n - 1) } ∧ ((1 : Int) = 1 → (rn : Int) = rn) from ⟨push_good GE.out hr5', fun _ => rfl⟩)
        have n1 := GE.out.n1
        have n2 := GE.out.nM
        have wn : IntKind.i64.wrap (y.n - 1) = y.n - 1 := IntWalk.i64_in _ ⟨by omega, by omega⟩
        clear GE
        obtain ⟨y0, yn, yc, yh, yk, ykey, yl, yv⟩ := y
        simp only at hj GY n1 n2 wn
        subst hj
        have hj5i : (j : Int) < 5 := by omega
        have hr5i : (rn : Int) < 5 := by omega
        have e0 : W7.cell? ⟨b6, 0, none⟩ = some (.int .i64 (j : Nat)) := KE.out.cell rfl
        have e1 : W7.cell? ⟨b6, 2 + j, none⟩ = some (.int .i64 (yc.get j)) := KE.out.at_ hj5
        have e2 := KE.out.frozen (2 + j)
        go_upto_region 9 with (fail)
        refine wp_named (fun W8 hW8 => ?_)
        have KE8 := Lib.hid (show Blk W8 b6 (Ev.cells ⟨j, yn, yc.set j 0, yh, yk, ykey, yl, yv⟩) 41 by
          have h1 := KE.out.set (2 + j) (.int .i64 0)
          rw [← hW8] at h1
          have h2 : (Ev.cells ⟨j, yn, yc, yh, yk, ykey, yl, yv⟩).setIfInBounds (2 + j) (.int .i64 0) = Ev.cells ⟨j, yn, yc.set j 0, yh, yk, ykey, yl, yv⟩ := by
            match j, hj5 with
            | 0, _ | 1, _ | 2, _ | 3, _ | 4, _ => rfl
          rw [← h2]; exact h1)
        have M0 := Lib.hid (show Blk W8 w.heap.size (f.cells (.slice (some ⟨bl, off, none⟩) n cap)) 26 by rw [hW8]; exact N0.out.other (p := ⟨b6, 2 + j, none⟩) (by simp; omega) _)
        have M1 := Lib.hid (show Blk W8 (w.heap.size + 1) (Fr.zero.cells (.slice none 0 0)) 26 by rw [hW8]; exact N1.out.other (p := ⟨b6, 2 + j, none⟩) (by simp; omega) _)
        have M2 := Lib.hid (show Blk W8 (w.heap.size + 2) (Fr.cells ⟨1, (rn : Nat), 0, Ck.zero, es⟩ v) 26 by rw [hW8]; exact N2.out.other (p := ⟨b6, 2 + j, none⟩) (by simp; omega) _)
        have O8 := Lib.hid (show OwnE W8 (w.heap.size + 3) v es by rw [hW8]; exact World.ownsRow.kept O7.out (by_set W7 ⟨b6, 2 + j, none⟩ _) HV.out)
        have U8 := Lib.hid (show Below w.heap.size w W8 by rw [hW8]; exact UN.out.setCell (p := ⟨b6, 2 + j, none⟩) (by simp; omega) _)
        clear hW8 e0 e1 e2 KE N0 N1 N2 O7 UN
        have e0 : W8.cell? ⟨b6, 0, none⟩ = some (.int .i64 (j : Nat)) := KE8.out.cell rfl
        have e2 := KE8.out.frozen 0
        have c1 : W8.cell? ⟨w.heap.size + 2, 1, none⟩ = some (.int .i64 (rn : Nat)) := M2.out.cell rfl
        go_upto_region 10 with (fail)
        refine wp_named (fun W9 hW9 => ?_)
        have KE := Lib.hid (show Blk W9 b6 (Ev.cells ⟨rn, yn, yc.set j 0, yh, yk, ykey, yl, yv⟩) 41 by rw [hW9]; exact KE8.out.set 0 _)
        have N0 := Lib.hid (show Blk W9 w.heap.size (f.cells (.slice (some ⟨bl, off, none⟩) n cap)) 26 by rw [hW9]; exact M0.out.other (p := ⟨b6, 0, none⟩) (by simp; omega) _)
        have N1 := Lib.hid (show Blk W9 (w.heap.size + 1) (Fr.zero.cells (.slice none 0 0)) 26 by rw [hW9]; exact M1.out.other (p := ⟨b6, 0, none⟩) (by simp; omega) _)
        have N2 := Lib.hid (show Blk W9 (w.heap.size + 2) (Fr.cells ⟨1, (rn : Nat), 0, Ck.zero, es⟩ v) 26 by rw [hW9]; exact M2.out.other (p := ⟨b6, 0, none⟩) (by simp; omega) _)
        have O7 := Lib.hid (show OwnE W9 (w.heap.size + 3) v es by rw [hW9]; exact World.ownsRow.kept O8.out (by_set W8 ⟨b6, 0, none⟩ _) HV.out)
        have UN := Lib.hid (show Below w.heap.size w W9 by rw [hW9]; exact U8.out.setCell (p := ⟨b6, 0, none⟩) (by simp; omega) _)
        clear hW9 e0 e2 c1 KE8 M0 M1 M2 O8 U8
        have e0 : W9.cell? ⟨b6, 0, none⟩ = some (.int .i64 (rn : Nat)) := KE.out.cell rfl
        have e1 : W9.cell? ⟨b6, 1, none⟩ = some (.int .i64 yn) := KE.out.cell rfl
        have e2 : W9.cell? ⟨b6, 2 + rn, none⟩ = some (.int .i64 ((yc.set j 0).get rn)) := KE.out.at_ hr5'
        have e3 := KE.out.frozen (2 + rn)
        go_upto_region 11 with (fail)
        refine wp_named (fun W8 hW8 => ?_)
        have KE8 := Lib.hid (show Blk W8 b6 (Ev.cells ⟨rn, yn, (yc.set j 0).set rn (yn - 1), yh, yk, ykey, yl, yv⟩) 41 by
          have h1 := KE.out.set (2 + rn) (.int .i64 (yn - 1))
          rw [← hW8] at h1
          have h2 : (Ev.cells ⟨rn, yn, yc.set j 0, yh, yk, ykey, yl, yv⟩).setIfInBounds (2 + rn) (.int .i64 (yn - 1)) = Ev.cells ⟨rn, yn, (yc.set j 0).set rn (yn - 1), yh, yk, ykey, yl, yv⟩ := by
            match rn, hr5' with
            | 0, _ | 1, _ | 2, _ | 3, _ | 4, _ => rfl
          rw [← h2]; exact h1)
        have M0 := Lib.hid (show Blk W8 w.heap.size (f.cells (.slice (some ⟨bl, off, none⟩) n cap)) 26 by rw [hW8]; exact N0.out.other (p := ⟨b6, 2 + rn, none⟩) (by simp; omega) _)
        have M1 := Lib.hid (show Blk W8 (w.heap.size + 1) (Fr.zero.cells (.slice none 0 0)) 26 by rw [hW8]; exact N1.out.other (p := ⟨b6, 2 + rn, none⟩) (by simp; omega) _)
        have M2 := Lib.hid (show Blk W8 (w.heap.size + 2) (Fr.cells ⟨1, (rn : Nat), 0, Ck.zero, es⟩ v) 26 by rw [hW8]; exact N2.out.other (p := ⟨b6, 2 + rn, none⟩) (by simp; omega) _)
        have O8 := Lib.hid (show OwnE W8 (w.heap.size + 3) v es by rw [hW8]; exact World.ownsRow.kept O7.out (by_set W9 ⟨b6, 2 + rn, none⟩ _) HV.out)
        have U8 := Lib.hid (show Below w.heap.size w W8 by rw [hW8]; exact UN.out.setCell (p := ⟨b6, 2 + rn, none⟩) (by simp; omega) _)
        clear hW8 e0 e1 e2 e3 KE N0 N1 N2 O7 UN wn n1 n2
        have KE := KE8; have N0 := M0; have N1 := M1; have N2 := M2; have O7 := O8; have UN := U8
        clear KE8 M0 M1 M2 O8 U8
        generalize hY : Ev.mk rn yn ((yc.set j 0).set rn (yn - 1)) yh yk ykey yl yv = Y at *
        have GY2 := Lib.hid (show Ev.Good Y ∧ ((1 : Int) = 1 → Y.r = (rn : Int)) from ⟨GY.out.1, fun _ => by rw [← hY]⟩)
        clear hY GY
        have GY := GY2
        clear GY2
        have S8 := Lib.hid (show Sl (W8.alloc (.cells (Ev.cells Y) 41)) 12 (some ⟨W8.heap.size, 0, none⟩) 1 1 (evc [Y]) from Sl.of_blk (by rw [evc_one]; exact Blk.new W8 (Ev.cells Y) 41) (by rw [evc_len]; rfl) (by decide))
        have O8 := Lib.hid (O7.out.up (up_blk (cs := Ev.cells Y) (t := 41) (Lex.Up.refl W8)))
        have P0 := Lib.hid (N0.out.alloc (.cells (Ev.cells Y) 41)); have P1 := Lib.hid (N1.out.alloc (.cells (Ev.cells Y) 41)); have P2 := Lib.hid (N2.out.alloc (.cells (Ev.cells Y) 41))
        have UP := Lib.hid (show Below w.heap.size w (W8.alloc (.cells (Ev.cells Y) 41)) from UN.out.alloc UN.out.size _)
        have Z8 : w.heap.size + 3 ≤ (W8.alloc (.cells (Ev.cells Y) 41)).heap.size := by have := N2.out.lt; simp; omega
        have OB := Lib.hid O7.out.base
        obtain ⟨b0, b1, b2, b3, b4, b5, b6', b7, b8⟩ := N2.out.fr
        obtain ⟨e0, e1, e2, e3, e4, e5, e6, e7, e8, e9, e10, e11⟩ := Blk.all W8 KE.out
        have f8 := N2.out.frozen 8
        have hne : w.heap.size + 2 ≠ W8.heap.size := by have := N2.out.lt; omega
        go_wp2_with (at_builtin; refine ES12.wpList_append (by rfl) _ _ rfl (w.heap.size + 3) _ es.length (evc es) rfl O8.out (some ⟨W8.heap.size, 0, none⟩) 1 1 (evc [Y]) rfl S8.out (evc_one' _) (by omega) (by simp only [maxLen]; omega) Z8 ?_)
        intro v9 w9 hown9 hg9
        have O9 : OwnE w9 (w.heap.size + 3) v9 (es ++ [Y]) := by unfold OwnE; rw [evc_append, List.length_append, show [Y].length = 1 from rfl, hes]; exact hown9
        obtain ⟨A9, cap9, q9, -⟩ := O9.sl
        rw [List.length_append, show [Y].length = 1 from rfl, hes] at q9
        subst q9
        have Q0 := Lib.hid (P0.out.row hg9 OB.out (by omega)); have Q1 := Lib.hid (P1.out.row hg9 OB.out (by omega)); have Q2 := Lib.hid (P2.out.row hg9 OB.out (by omega))
        have UQ := Lib.hid (show Below w.heap.size w w9 from Below.grown UP.out hg9 UP.out.size (fun k hk => by have := OB.out k hk; omega))
        have OQ := Lib.hid O9
        have GQ := Lib.hid (show ∀ e ∈ es ++ [Y], Ev.Good e ∧ ((1 : Int) = 1 → e.r = (rn : Int)) from fun e he => by
          rcases List.mem_append.1 he with he | he
          · exact ⟨(HGs.out e he).1, fun h => by have := (HGs.out e he).2; simp_all⟩
          · rw [List.mem_singleton.1 he]
            exact ⟨GY.out.1, fun h => by have := GY.out.2; simp_all⟩)
        clear S8 O8 P0 P1 P2 UP Z8 OB b0 b1 b2 b3 b4 b5 b6' b7 b8 e0 e1 e2 e3 e4 e5 e6 e7 e8 e9 e10 e11 f8 hne hown9 hg9 O9 N0 N1 N2 O7 UN KE
        have g8 := Q2.out.frozen 8
        have b8 := Q2.out.cell (j := 8) rfl
        have hl9 : (es ++ [Y]).length = i + 1 := by simp [hes]
        go_wp2
        go_roundw
        case rel =>
          refine ⟨i + 1, _, es ++ [Y], by omega, by omega, by go_num, hl9, Lib.hid (Q0.out.other (p := ⟨w.heap.size + 2, 8, none⟩) (by simp) _), Lib.hid (Q1.out.other (p := ⟨w.heap.size + 2, 8, none⟩) (by simp) _), Lib.hid (Q2.out.set 8 _), Lib.hid (OQ.out.by_ (by_set w9 ⟨w.heap.size + 2, 8, none⟩ _) (by simp)), GQ, Lib.hid (UQ.out.setCell (p := ⟨w.heap.size + 2, 8, none⟩) (by simp) _)⟩
        case measure => simp [intOf]; omega
      · have hg : decide (i < n) = false ∨ decide (i < n) = true ∧ decide ((i : Int) < 20) = false := by
          by_cases h6 : i < n
          · refine .inr ⟨by simpa using h6, ?_⟩
            simp; omega
          · exact .inl (by simpa using h6)
        have hes' : (es.length : Int) = i := by omega
        clear h5 hin
        go_upto_region 4 with (fail)
        go_cut [29] (fun v29 wx => v29 = .bool false ∧ wr = wx)
        case first =>
          rcases hg with hg | ⟨hg, hg2⟩
          · go_wp2_with fail
            go_meet
            exact ⟨rfl, rfl⟩
          · go_wp2_with fail
            go_meet
            exact ⟨rfl, rfl⟩
        case rest =>
        obtain ⟨rfl, hwx⟩ := hcut
        subst hwx
        obtain ⟨A9, cap9, rfl, -⟩ := O1.out.sl
        rw [hes] at J2 O1
        obtain ⟨b0, b1, b2, b3, b4, b5, b6, b7, b8⟩ := J2.out.fr
        have f0 := J2.out.frozen 0
        clear C6 SL NL AD HS J0
        by_cases h0 : i = 0
        · subst h0
          have e0 : es = [] := List.eq_nil_of_length_eq_zero hes
          subst e0
          have G : Fr.Good ⟨4, r, 0, Ck.zero, []⟩ := ⟨hr0, hr5, by simp, fun _ => ⟨rfl, rfl, by simp, fun e he => by cases he⟩, fun h => by simp at h, fun h => by simp at h, fun h => by simp at h⟩
          have HG := Lib.hid G
          clear G hg
          go_upto_region 22 with (fail)
          refine wp_named (fun W4 hW4 => ?_)
          have M1 := Lib.hid (show Blk W4 (w.heap.size + 1) (Fr.zero.cells (.slice none 0 0)) 26 by rw [hW4]; exact J1.out.other (p := ⟨w.heap.size + 2, 0, none⟩) (by simp) _)
          have M2 := Lib.hid (show Blk W4 (w.heap.size + 2) (Fr.cells ⟨4, r, 0, Ck.zero, []⟩ (.slice A9 0 cap9)) 26 by rw [hW4]; exact J2.out.set 0 _)
          have MU := Lib.hid (show Below w.heap.size w W4 by rw [hW4]; exact JU.out.setCell (p := ⟨w.heap.size + 2, 0, none⟩) (by simp) _)
          have O9 := Lib.hid (show OwnE W4 (w.heap.size + 3) (.slice A9 0 cap9) [] by rw [hW4]; exact O1.out.by_ (by_set wr ⟨w.heap.size + 2, 0, none⟩ _) (by simp))
          clear hW4 a0 a1 a2 a3 a4 a5 a6 a7 a8 b0 b1 b2 b3 b4 b5 b6 b7 b8 f0 J1 J2 O1 JU
          generalize hgg : Fr.mk 4 r 0 Ck.zero [] = g at *
          have eg : g.es = [] := by rw [← hgg]
          have O' := Lib.hid (show OwnE W4 (w.heap.size + 3) (.slice A9 0 cap9) g.es by rw [eg]; exact O9.out)
          clear hgg O9 eg
          obtain ⟨v, hv⟩ : ∃ v, v = Value.slice A9 0 cap9 := ⟨_, rfl⟩
          rw [← hv] at M2 O'
          clear hv
          obtain ⟨A9, cap9, rfl, -⟩ := (O'.out).sl
          obtain ⟨k0, k1, k2, k3, k4, k5, k6, k7, k8⟩ := (M2.out).fr
          obtain ⟨j0, j1, j2, j3, j4, j5, j6, j7, j8⟩ := (M1.out).fr
          have f := (M1.out).frozen
          have f0 := f 0; have f1 := f 1; have f2 := f 2; have f3 := f 3; have f4 := f 4; have f5 := f 5; have f6 := f 6; have f7 := f 7; have f8 := f 8
          clear f
          go_wp2
          change bodyPost _ _ _ _ _ (put9 W4 (w.heap.size + 1) g _)
          have K := put9_blk (M1.out) g (.slice A9 (g).es.length cap9)
          have BB := put9_below (MU.out) (Nat.le_succ w.heap.size) g (.slice A9 (g).es.length cap9)
          have OZ := (O'.out).by_ (put9_by W4 (w.heap.size + 1) g (.slice A9 (g).es.length cap9)) (by omega)
          obtain ⟨A8, cap8, e8, SZ⟩ := OZ.sl
          injection e8 with e81 _ e83
          subst e81 e83
          generalize put9 W4 (w.heap.size + 1) g (.slice A9 (g).es.length cap9) = W5 at *
          obtain ⟨k0', k1', k2', k3', k4', k5', k6', k7', k8'⟩ := K.fr
          refine bodyPost_ret (v := Fr.val g (.slice A9 (g).es.length cap9)) (by simp [results, Try.results18, go_sem, Fr.val, k0', k1', k2', k3', k4', k5', k6', k7', k8']) rfl ⟨g, A9, cap9, HG.out, rfl, SZ, BB⟩
        · have h0' : ((i : Int) == 0) = false := by simp; omega
          have G : Fr.Good ⟨1, r, 0, Ck.zero, es⟩ := ⟨hr0, hr5, by simp, fun _ => ⟨rfl, rfl, by simp only; omega, fun e he => (HGs.out e he).1⟩, fun h => ⟨by simp only; omega, fun e he => (HGs.out e he).2 h⟩, fun h => by simp at h, fun h => by simp at h⟩
          have HG := Lib.hid G
          clear G hg
          go_upto_region 22 with (fail)
          clear a0 a1 a2 a3 a4 a5 a6 a7 a8 b0 b1 b2 b3 b4 b5 b6 b7 b8 f0
          generalize hgg : Fr.mk 1 r 0 Ck.zero es = g at *
          have eg : g.es = es := by rw [← hgg]
          have O' := Lib.hid (show OwnE wr (w.heap.size + 3) (.slice A9 i cap9) g.es by rw [eg]; exact O1.out)
          clear hgg O1 eg
          obtain ⟨v, hv⟩ : ∃ v, v = Value.slice A9 i cap9 := ⟨_, rfl⟩
          rw [← hv] at J2 O'
          clear hv
          obtain ⟨A9, cap9, rfl, -⟩ := (O'.out).sl
          obtain ⟨k0, k1, k2, k3, k4, k5, k6, k7, k8⟩ := (J2.out).fr
          obtain ⟨j0, j1, j2, j3, j4, j5, j6, j7, j8⟩ := (J1.out).fr
          have f := (J1.out).frozen
          have f0 := f 0; have f1 := f 1; have f2 := f 2; have f3 := f 3; have f4 := f 4; have f5 := f 5; have f6 := f 6; have f7 := f 7; have f8 := f 8
          clear f
          go_wp2
          change bodyPost _ _ _ _ _ (put9 wr (w.heap.size + 1) g _)
          have K := put9_blk (J1.out) g (.slice A9 (g).es.length cap9)
          have BB := put9_below (JU.out) (Nat.le_succ w.heap.size) g (.slice A9 (g).es.length cap9)
          have OZ := (O'.out).by_ (put9_by wr (w.heap.size + 1) g (.slice A9 (g).es.length cap9)) (by omega)
          obtain ⟨A8, cap8, e8, SZ⟩ := OZ.sl
          injection e8 with e81 _ e83
          subst e81 e83
          generalize put9 wr (w.heap.size + 1) g (.slice A9 (g).es.length cap9) = W5 at *
          obtain ⟨k0', k1', k2', k3', k4', k5', k6', k7', k8'⟩ := K.fr
          refine bodyPost_ret (v := Fr.val g (.slice A9 (g).es.length cap9)) (by simp [results, Try.results18, go_sem, Fr.val, k0', k1', k2', k3', k4', k5', k6', k7', k8']) rfl ⟨g, A9, cap9, HG.out, rfl, SZ, BB⟩
  · have k1 : ((4 : Int) == 1) = decide ((4 : Int) = 1) := rfl
    obtain ⟨a0, a1, a2, a3, a4, a5, a6, a7, a8⟩ := L2.out.fr
    go_upto_region 3 with (fail)
    clear a0 a1 a2 a3 a4 a5 a6 a7 a8
    go_wp2_with fail
    have O0 := Lib.hid (OwnE.nil W (w.heap.size + 3))
    go_loopw [5] (fun v5 wr => FitEvRel w.heap.size n 4 r f (.slice A n cap) w v5 wr) (fun v5 _ => 20 - (intOf v5).toNat)
    case atStart => exact ⟨0, _, [], by omega, by omega, rfl, rfl, L0, L1, L2, O0, Lib.hid (fun e he => by cases he), UU⟩
    case round =>
      obtain ⟨i, v, es, hi, hi20, rfl, hes, J0, J1, J2, O1, HGs, JU⟩ := hrel
      clear L0 L1 L2 UU O0
      have z2 := J2.out.lt
      have hin : (i : Int) < n ∨ ¬ (i : Int) < n := by omega
      obtain ⟨a0, a1, a2, a3, a4, a5, a6, a7, a8⟩ := J0.out.fr
      by_cases h5 : i < n ∧ i < 20
      · obtain ⟨h5, h6⟩ := h5
        have h5' : (i : Int) < n := by omega
        have h6' : (i : Int) < 20 := by omega
        obtain ⟨bl, off, rfl⟩ := AD.out (by omega)
        obtain ⟨e0, e1, e2, e3, e4, e5, e6, e7, e8, e9, e10, e11⟩ := ev_at (SL.out wr JU.out) h5
        have HE := Lib.hid (HS.out _ (Fr.nth_mem (k := i) (by rw [NL.out]; exact h5)))
        generalize Ev.nth f.es i = e at e0 e1 e2 e3 e4 e5 e6 e7 e8 e9 e10 e11 HE
        go_wp2_with fail
        refine (C6.out e _ HE.out.1 HE.out.2).mono ?_
        rintro x w6 ⟨y, hy, rfl, hb6⟩
        clear e0 e1 e2 e3 e4 e5 e6 e7 e8 e9 e10 e11 HE a0 a1 a2 a3 a4 a5 a6 a7 a8
        have GE := Lib.hid hy
        have N0 := Lib.hid ((J0.out.up hb6).alloc (.cells y.cells 41)); have N1 := Lib.hid ((J1.out.up hb6).alloc (.cells y.cells 41)); have N2 := Lib.hid ((J2.out.up hb6).alloc (.cells y.cells 41))
        have KE := Lib.hid (Blk.new w6 y.cells 41)
        have O7 := Lib.hid ((O1.out.up hb6).up (up_blk (cs := y.cells) (t := 41) (Lex.Up.refl w6)))
        have UN := Lib.hid (show Below w.heap.size w (w6.alloc (.cells y.cells 41)) from (JU.out.trans (hb6.mono JU.out.size)).alloc (Nat.le_trans JU.out.size hb6.size) _)
        have zb : w.heap.size + 2 < w6.heap.size := (J2.out.up hb6).lt
        have HV := Lib.hid (show v.ownBlock = none ∨ v.ownBlock ≠ some w6.heap.size from by
          have := O1.out.lt
          rcases hv : v.ownBlock with _ | g
          · exact .inl rfl
          · refine .inr fun e => ?_
            have h1 := (this g hv).2
            have h2 := hb6.size
            simp at e
            omega)
        clear hy hb6 J0 J1 J2 O1 JU z2
        go_upto_region 7 with (fail)
        refine wp_named (fun W7 hW7 => ?_)
        have hW7' : W7 = w6.alloc (.cells y.cells 41) := hW7
        rw [← hW7'] at N0 N1 N2 KE O7 UN
        clear hW7 hW7'
        obtain ⟨b6, hb6⟩ : ∃ b6, b6 = w6.heap.size := ⟨_, rfl⟩
        rw [← hb6] at KE HV zb ⊢
        clear hb6
        have b0 : W7.cell? ⟨w.heap.size + 2, 0, none⟩ = some (.int .i64 4) := N2.out.cell rfl
        have GY := Lib.hid (show Ev.Good y ∧ ((4 : Int) = 1 → y.r = r) from ⟨GE.out, fun h => by omega⟩)
        clear GE
        go_upto_region 11 with (fail)
        have S8 := Lib.hid (show Sl (W7.alloc (.cells (Ev.cells y) 41)) 12 (some ⟨W7.heap.size, 0, none⟩) 1 1 (evc [y]) from Sl.of_blk (by rw [evc_one]; exact Blk.new W7 (Ev.cells y) 41) (by rw [evc_len]; rfl) (by decide))
        have O8 := Lib.hid (O7.out.up (up_blk (cs := Ev.cells y) (t := 41) (Lex.Up.refl W7)))
        have P0 := Lib.hid (N0.out.alloc (.cells (Ev.cells y) 41)); have P1 := Lib.hid (N1.out.alloc (.cells (Ev.cells y) 41)); have P2 := Lib.hid (N2.out.alloc (.cells (Ev.cells y) 41))
        have UP := Lib.hid (show Below w.heap.size w (W7.alloc (.cells (Ev.cells y) 41)) from UN.out.alloc UN.out.size _)
        have Z8 : w.heap.size + 3 ≤ (W7.alloc (.cells (Ev.cells y) 41)).heap.size := by have := N2.out.lt; simp; omega
        have OB := Lib.hid O7.out.base
        obtain ⟨b0, b1, b2, b3, b4, b5, b6', b7, b8⟩ := N2.out.fr
        obtain ⟨e0, e1, e2, e3, e4, e5, e6, e7, e8, e9, e10, e11⟩ := Blk.all W7 KE.out
        have f8 := N2.out.frozen 8
        have hne : w.heap.size + 2 ≠ W7.heap.size := by have := N2.out.lt; omega
        go_wp2_with (at_builtin; refine ES12.wpList_append (by rfl) _ _ rfl (w.heap.size + 3) _ es.length (evc es) rfl O8.out (some ⟨W7.heap.size, 0, none⟩) 1 1 (evc [y]) rfl S8.out (evc_one' _) (by omega) (by simp only [maxLen]; omega) Z8 ?_)
        intro v9 w9 hown9 hg9
        have O9 : OwnE w9 (w.heap.size + 3) v9 (es ++ [y]) := by unfold OwnE; rw [evc_append, List.length_append, show [y].length = 1 from rfl, hes]; exact hown9
        obtain ⟨A9, cap9, q9, -⟩ := O9.sl
        rw [List.length_append, show [y].length = 1 from rfl, hes] at q9
        subst q9
        have Q0 := Lib.hid (P0.out.row hg9 OB.out (by omega)); have Q1 := Lib.hid (P1.out.row hg9 OB.out (by omega)); have Q2 := Lib.hid (P2.out.row hg9 OB.out (by omega))
        have UQ := Lib.hid (show Below w.heap.size w w9 from Below.grown UP.out hg9 UP.out.size (fun k hk => by have := OB.out k hk; omega))
        have OQ := Lib.hid O9
        have GQ := Lib.hid (show ∀ e ∈ es ++ [y], Ev.Good e ∧ ((4 : Int) = 1 → e.r = r) from fun e he => by
          rcases List.mem_append.1 he with he | he
          · exact ⟨(HGs.out e he).1, fun h => by have := (HGs.out e he).2; simp_all⟩
          · rw [List.mem_singleton.1 he]
            exact ⟨GY.out.1, fun h => by have := GY.out.2; simp_all⟩)
        clear S8 O8 P0 P1 P2 UP Z8 OB b0 b1 b2 b3 b4 b5 b6' b7 b8 e0 e1 e2 e3 e4 e5 e6 e7 e8 e9 e10 e11 f8 hne hown9 hg9 O9 N0 N1 N2 O7 UN KE
        have g8 := Q2.out.frozen 8
        have b8 := Q2.out.cell (j := 8) rfl
        have hl9 : (es ++ [y]).length = i + 1 := by simp [hes]
        go_wp2
        go_roundw
        case rel =>
          refine ⟨i + 1, _, es ++ [y], by omega, by omega, by go_num, hl9, Lib.hid (Q0.out.other (p := ⟨w.heap.size + 2, 8, none⟩) (by simp) _), Lib.hid (Q1.out.other (p := ⟨w.heap.size + 2, 8, none⟩) (by simp) _), Lib.hid (Q2.out.set 8 _), Lib.hid (OQ.out.by_ (by_set w9 ⟨w.heap.size + 2, 8, none⟩ _) (by simp)), GQ, Lib.hid (UQ.out.setCell (p := ⟨w.heap.size + 2, 8, none⟩) (by simp) _)⟩
        case measure => simp [intOf]; omega
      · have hg : decide (i < n) = false ∨ decide (i < n) = true ∧ decide ((i : Int) < 20) = false := by
          by_cases h6 : i < n
          · refine .inr ⟨by simpa using h6, ?_⟩
            simp; omega
          · exact .inl (by simpa using h6)
        have hes' : (es.length : Int) = i := by omega
        clear h5 hin
        go_upto_region 4 with (fail)
        go_cut [29] (fun v29 wx => v29 = .bool false ∧ wr = wx)
        case first =>
          rcases hg with hg | ⟨hg, hg2⟩
          · go_wp2_with fail
            go_meet
            exact ⟨rfl, rfl⟩
          · go_wp2_with fail
            go_meet
            exact ⟨rfl, rfl⟩
        case rest =>
        obtain ⟨rfl, hwx⟩ := hcut
        subst hwx
        obtain ⟨A9, cap9, rfl, -⟩ := O1.out.sl
        rw [hes] at J2 O1
        obtain ⟨b0, b1, b2, b3, b4, b5, b6, b7, b8⟩ := J2.out.fr
        have f0 := J2.out.frozen 0
        clear C6 SL NL AD HS J0
        by_cases h0 : i = 0
        · subst h0
          have e0 : es = [] := List.eq_nil_of_length_eq_zero hes
          subst e0
          have G : Fr.Good ⟨4, r, 0, Ck.zero, []⟩ := ⟨hr0, hr5, by simp, fun _ => ⟨rfl, rfl, by simp, fun e he => by cases he⟩, fun h => by simp at h, fun h => by simp at h, fun h => by simp at h⟩
          have HG := Lib.hid G
          clear G hg
          go_upto_region 22 with (fail)
          refine wp_named (fun W4 hW4 => ?_)
          have M1 := Lib.hid (show Blk W4 (w.heap.size + 1) (Fr.zero.cells (.slice none 0 0)) 26 by rw [hW4]; exact J1.out.other (p := ⟨w.heap.size + 2, 0, none⟩) (by simp) _)
          have M2 := Lib.hid (show Blk W4 (w.heap.size + 2) (Fr.cells ⟨4, r, 0, Ck.zero, []⟩ (.slice A9 0 cap9)) 26 by rw [hW4]; exact J2.out.set 0 _)
          have MU := Lib.hid (show Below w.heap.size w W4 by rw [hW4]; exact JU.out.setCell (p := ⟨w.heap.size + 2, 0, none⟩) (by simp) _)
          have O9 := Lib.hid (show OwnE W4 (w.heap.size + 3) (.slice A9 0 cap9) [] by rw [hW4]; exact O1.out.by_ (by_set wr ⟨w.heap.size + 2, 0, none⟩ _) (by simp))
          clear hW4 a0 a1 a2 a3 a4 a5 a6 a7 a8 b0 b1 b2 b3 b4 b5 b6 b7 b8 f0 J1 J2 O1 JU
          generalize hgg : Fr.mk 4 r 0 Ck.zero [] = g at *
          have eg : g.es = [] := by rw [← hgg]
          have O' := Lib.hid (show OwnE W4 (w.heap.size + 3) (.slice A9 0 cap9) g.es by rw [eg]; exact O9.out)
          clear hgg O9 eg
          obtain ⟨v, hv⟩ : ∃ v, v = Value.slice A9 0 cap9 := ⟨_, rfl⟩
          rw [← hv] at M2 O'
          clear hv
          obtain ⟨A9, cap9, rfl, -⟩ := (O'.out).sl
          obtain ⟨k0, k1, k2, k3, k4, k5, k6, k7, k8⟩ := (M2.out).fr
          obtain ⟨j0, j1, j2, j3, j4, j5, j6, j7, j8⟩ := (M1.out).fr
          have f := (M1.out).frozen
          have f0 := f 0; have f1 := f 1; have f2 := f 2; have f3 := f 3; have f4 := f 4; have f5 := f 5; have f6 := f 6; have f7 := f 7; have f8 := f 8
          clear f
          go_wp2
          change bodyPost _ _ _ _ _ (put9 W4 (w.heap.size + 1) g _)
          have K := put9_blk (M1.out) g (.slice A9 (g).es.length cap9)
          have BB := put9_below (MU.out) (Nat.le_succ w.heap.size) g (.slice A9 (g).es.length cap9)
          have OZ := (O'.out).by_ (put9_by W4 (w.heap.size + 1) g (.slice A9 (g).es.length cap9)) (by omega)
          obtain ⟨A8, cap8, e8, SZ⟩ := OZ.sl
          injection e8 with e81 _ e83
          subst e81 e83
          generalize put9 W4 (w.heap.size + 1) g (.slice A9 (g).es.length cap9) = W5 at *
          obtain ⟨k0', k1', k2', k3', k4', k5', k6', k7', k8'⟩ := K.fr
          refine bodyPost_ret (v := Fr.val g (.slice A9 (g).es.length cap9)) (by simp [results, Try.results18, go_sem, Fr.val, k0', k1', k2', k3', k4', k5', k6', k7', k8']) rfl ⟨g, A9, cap9, HG.out, rfl, SZ, BB⟩
        · have h0' : ((i : Int) == 0) = false := by simp; omega
          have G : Fr.Good ⟨4, r, 0, Ck.zero, es⟩ := ⟨hr0, hr5, by simp, fun _ => ⟨rfl, rfl, by simp only; omega, fun e he => (HGs.out e he).1⟩, fun h => ⟨by simp only; omega, fun e he => (HGs.out e he).2 h⟩, fun h => by simp at h, fun h => by simp at h⟩
          have HG := Lib.hid G
          clear G hg
          go_upto_region 22 with (fail)
          clear a0 a1 a2 a3 a4 a5 a6 a7 a8 b0 b1 b2 b3 b4 b5 b6 b7 b8 f0
          generalize hgg : Fr.mk 4 r 0 Ck.zero es = g at *
          have eg : g.es = es := by rw [← hgg]
          have O' := Lib.hid (show OwnE wr (w.heap.size + 3) (.slice A9 i cap9) g.es by rw [eg]; exact O1.out)
          clear hgg O1 eg
          obtain ⟨v, hv⟩ : ∃ v, v = Value.slice A9 i cap9 := ⟨_, rfl⟩
          rw [← hv] at J2 O'
          clear hv
          obtain ⟨A9, cap9, rfl, -⟩ := (O'.out).sl
          obtain ⟨k0, k1, k2, k3, k4, k5, k6, k7, k8⟩ := (J2.out).fr
          obtain ⟨j0, j1, j2, j3, j4, j5, j6, j7, j8⟩ := (J1.out).fr
          have f := (J1.out).frozen
          have f0 := f 0; have f1 := f 1; have f2 := f 2; have f3 := f 3; have f4 := f 4; have f5 := f 5; have f6 := f 6; have f7 := f 7; have f8 := f 8
          clear f
          go_wp2
          change bodyPost _ _ _ _ _ (put9 wr (w.heap.size + 1) g _)
          have K := put9_blk (J1.out) g (.slice A9 (g).es.length cap9)
          have BB := put9_below (JU.out) (Nat.le_succ w.heap.size) g (.slice A9 (g).es.length cap9)
          have OZ := (O'.out).by_ (put9_by wr (w.heap.size + 1) g (.slice A9 (g).es.length cap9)) (by omega)
          obtain ⟨A8, cap8, e8, SZ⟩ := OZ.sl
          injection e8 with e81 _ e83
          subst e81 e83
          generalize put9 wr (w.heap.size + 1) g (.slice A9 (g).es.length cap9) = W5 at *
          obtain ⟨k0', k1', k2', k3', k4', k5', k6', k7', k8'⟩ := K.fr
          refine bodyPost_ret (v := Fr.val g (.slice A9 (g).es.length cap9)) (by simp [results, Try.results18, go_sem, Fr.val, k0', k1', k2', k3', k4', k5', k6', k7', k8']) rfl ⟨g, A9, cap9, HG.out, rfl, SZ, BB⟩
end Go.Proofs.Ytldhmpngehlnhaa
