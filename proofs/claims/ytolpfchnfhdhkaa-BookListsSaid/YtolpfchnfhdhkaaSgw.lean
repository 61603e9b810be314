/-
  The walk of sightOf.
-/
import Derived.Test.YtolpfchnfhdhkaaSgv
namespace Go.Proofs.Ytolpfchnfhdhkaa
open Go.RowKit
set_option maxRecDepth 100000
set_option maxRecDepth 100000

/-- What a sight of these events is in memory. -/
def Sgh (w : World) (b0 b1 : Nat) (es : List Ev) : Prop :=
  ∃ ms0 ms1, Gm tgKey w b0 ms0 ∧ Bk.SeenOk ms0 es ∧ Gm strKey w b1 ms1 ∧ Bk.FirstOk ms1 es es
theorem Sgh.up {w w' : World} {b0 b1 : Nat} {es : List Ev} (h : Sgh w b0 b1 es) (hu : Lex.Up w w') : Sgh w' b0 b1 es := by
  obtain ⟨m0, m1, a, b, c, d⟩ := h
  exact ⟨m0, m1, a.up hu, b, c.up hu, d⟩
theorem ev_take {es : List Ev} {k : Nat} (h : k < es.length) : es.take (k + 1) = es.take k ++ [Ev.nth es k] := by
  rw [List.take_add_one, Ev.nth, List.getD, List.getElem?_eq_getElem h]; rfl
def ScSight (b0 b1 : Nat) : Array Value := #[.map (some b0), .map (some b1)]
def SgRel (es : List Ev) (s : Nat) (W : World) (v : Value) (wr : World) : Prop :=
  ∃ (k : Nat) (ms : List (Tg × Value)), k ≤ es.length ∧ v = .int .i64 k ∧ Hid (Gm tgKey wr (s + 1) ms) ∧ Hid (Bk.SeenOk ms (es.take k)) ∧ Hid (Gm strKey wr (s + 2) []) ∧ Hid (Blk wr s #[.map none, .map none] 132) ∧ Hid (Blk wr (s + 3) (ScSight (s + 1) (s + 2)) 132) ∧ Hid (Below s W wr)
def ShRel (es : List Ev) (ms0 : List (Tg × Value)) (s : Nat) (W : World) (v : Value) (wr : World) : Prop :=
  ∃ (k : Nat) (ms : List (ByteArray × Value)), k ≤ es.length ∧ v = .int .i64 k ∧ Hid (Gm tgKey wr (s + 1) ms0) ∧ Hid (Gm strKey wr (s + 2) ms) ∧ Hid (Bk.FirstOk ms es (es.take k)) ∧ Hid (Blk wr s #[.map none, .map none] 132) ∧ Hid (Blk wr (s + 3) (ScSight (s + 1) (s + 2)) 132) ∧ Hid (Below s W wr)
theorem below_by {B : Nat} {w w1 w2 : World} {b : Nat} (h : Below B w w1) (hg : w1.grownBy w2 (some b)) (hB : B ≤ b) (hBw : B ≤ w.heap.size) : Below B w w2 :=
  Below.grown h hg (Nat.le_trans hBw h.size) (fun q hq => by injection hq with e; omega)
set_option maxHeartbeats 3200000 in
theorem sightOf_any (es : List Ev) (A : Option Addr) (n cap : Nat) (w : World) (h : EvSl w A n cap es) :
    Calls Try.prog 90 #[.slice A n cap] w fun x w' => ∃ b0 b1, x = .returned (.agg #[.map (some b0), .map (some b1)]) ∧ Sgh w' b0 b1 es ∧ w.heap.size ≤ b0 ∧ w.heap.size ≤ b1 ∧ Lex.Up w w' := by
  have hmm := @run_makeMap Try.prog
  have SL := Lib.hid (fun w' (hu : Lex.Up w w') => EvSl.up h hu)
  have AD := Lib.hid h.addr
  have hl := h.len
  have hlim := h.lim
  have HL := Lib.hid hl
  have HE := Lib.hid (show es.take n = es by rw [← hl, List.take_length])
  have Z0 := Lib.hid ((((Blk.new w #[.map none, .map none] 132).alloc (.map #[] 0)).alloc (.map #[] 0)).alloc (.cells (ScSight (w.heap.size + 1) (w.heap.size + 2)) 132))
  have M0 := Lib.hid (((Gm.new tgKey (w.alloc (.cells #[.map none, .map none] 132))).alloc (.map #[] 0)).alloc (.cells (ScSight (w.heap.size + 1) (w.heap.size + 2)) 132))
  have N0 := Lib.hid ((Gm.new strKey ((w.alloc (.cells #[.map none, .map none] 132)).alloc (.map #[] 0))).alloc (.cells (ScSight (w.heap.size + 1) (w.heap.size + 2)) 132))
  have S0 := Lib.hid (Blk.new (((w.alloc (.cells #[.map none, .map none] 132)).alloc (.map #[] 0)).alloc (.map #[] 0)) (ScSight (w.heap.size + 1) (w.heap.size + 2)) 132)
  have U0 := Lib.hid (show Below w.heap.size w ((((w.alloc (.cells #[.map none, .map none] 132)).alloc (.map #[] 0)).alloc (.map #[] 0)).alloc (.cells (ScSight (w.heap.size + 1) (w.heap.size + 2)) 132)) from
    ((((Below.refl _ _).alloc (Nat.le_refl _) _).alloc (by simp) _).alloc (by simp; omega) _).alloc (by simp; omega) _)
  clear h hl
  go_enter Try.func90, Try.ntmps90
  go_upto_region 2 with (fail)
  refine wp_named (fun W hW => ?_)
  rw [← show W = (((w.alloc (.cells #[.map none, .map none] 132)).alloc (.map #[] 0)).alloc (.map #[] 0)).alloc (.cells (ScSight (w.heap.size + 1) (w.heap.size + 2)) 132) from hW] at Z0 M0 N0 S0 U0
  simp only [World.size_alloc] at M0 N0 S0
  clear hW hmm
  go_wp2
  go_loopw [13] (fun v wr => SgRel es w.heap.size w v wr) (fun v _ => n - (intOf v).toNat)
  case atStart => exact ⟨0, [], by omega, rfl, M0, Lib.hid (by simpa using Bk.seenOk_nil), N0, Z0, S0, U0⟩
  case round =>
    obtain ⟨k, ms, hk, rfl, MM, SO, NN, ZZ, SS, UU⟩ := hrel
    rw [HL.out] at hk
    clear Z0 M0 N0 S0 U0
    have lts := ZZ.out.lt
    have ltt := SS.out.lt
    by_cases h5 : k < n
    · have h5' : (k : Int) < n := by omega
      obtain ⟨b, off, rfl⟩ := AD.out (by omega)
      obtain ⟨e0, e1, e2, e3, e4, e5, e6, e7, e8, e9, e10, e11⟩ := ev_at (SL.out wr UU.out) h5
      have SN := Lib.hid (show Bk.SeenOk _ (es.take (k + 1)) by rw [ev_take (by rw [HL.out]; exact h5)]; exact Bk.seenOk_add SO.out (Ev.nth es k))
      generalize hg : Ev.nth es k = e at e0 e1 e2 e3 e4 e5 e6 e7 e8 e9 e10 e11 SN
      have HG := Lib.hid hg
      clear hg
      go_upto_region 5 with (fail)
      refine wp_named (fun W5 hW => ?_)
      have KA := Lib.hid (show Blk W5 wr.heap.size e.cells 39 by rw [hW]; exact Blk.new wr e.cells 39)
      have M5 := Lib.hid (show Gm tgKey W5 (w.heap.size + 1) ms by rw [hW]; exact MM.out.alloc _)
      have N5 := Lib.hid (show Gm strKey W5 (w.heap.size + 2) [] by rw [hW]; exact NN.out.alloc _)
      have Z5 := Lib.hid (show Blk W5 w.heap.size #[.map none, .map none] 132 by rw [hW]; exact ZZ.out.alloc _)
      have S5 := Lib.hid (show Blk W5 (w.heap.size + 3) (ScSight (w.heap.size + 1) (w.heap.size + 2)) 132 by rw [hW]; exact SS.out.alloc _)
      have U5 := Lib.hid (show Below w.heap.size w W5 by rw [hW]; exact UU.out.alloc (by omega) _)
      clear hW e0 e1 e2 e3 e4 e5 e6 e7 e8 e9 e10 e11 MM NN ZZ SS UU
      obtain ⟨a0, a1, a2, a3, a4, a5, a6, a7, a8, a9, a10, a11⟩ := KA.out.e12
      have s0 : W5.cell? ⟨w.heap.size + 3, 0, none⟩ = some (.map (some (w.heap.size + 1))) := S5.out.cell rfl
      have s1 : W5.cell? ⟨w.heap.size + 3, 1, none⟩ = some (.map (some (w.heap.size + 2))) := S5.out.cell rfl
      go_wp2_with fail
      refine (see_any (w.heap.size + 1) (some (w.heap.size + 2)) ms (es.take k) e W5 M5.out SO.out).mono ?_
      rintro x w6 ⟨rfl, hm, hb⟩
      have M6 := Lib.hid hm
      have N6 := Lib.hid (N5.out.grown hb (by simp))
      have Z6 := Lib.hid (Z5.out.grown hb (by simp))
      have S6 := Lib.hid (S5.out.grown hb (by simp))
      have U6 := Lib.hid (below_by U5.out hb (by omega) (Nat.le_refl _))
      clear hm hb M5 N5 Z5 S5 U5 s0 s1 a0 a1 a2 a3 a4 a5 a6 a7 a8 a9 a10 a11 KA
      go_wp2
      go_roundw
      case rel => exact ⟨k + 1, _, by rw [HL.out]; omega, by go_num, M6, SN, N6, Z6, S6, U6⟩
      case measure => simp [intOf]; omega
    · obtain rfl : k = n := by omega
      have SO2 := Lib.hid (show Bk.SeenOk ms es by have := SO.out; rwa [HE.out] at this)
      clear SO h5
      go_wp2
      go_loopw [23] (fun v wr => ShRel es ms w.heap.size w v wr) (fun v _ => k - (intOf v).toNat)
      case atStart => exact ⟨0, [], by omega, rfl, MM, NN, Lib.hid (by simpa using Bk.firstOk_nil es), ZZ, SS, UU⟩
      case round =>
        obtain ⟨j, ms1, hj, rfl, M1, N1, FO, Z1, S1, U1⟩ := hrel
        rw [HL.out] at hj
        clear MM NN ZZ SS UU lts ltt
        have lts := Z1.out.lt
        have ltt := S1.out.lt
        by_cases h5 : j < k
        · have h5' : (j : Int) < k := by omega
          obtain ⟨b, off, rfl⟩ := AD.out (by omega)
          obtain ⟨e0, e1, e2, e3, e4, e5, e6, e7, e8, e9, e10, e11⟩ := ev_at (SL.out wr U1.out) h5
          have FN := Lib.hid (show Bk.isFirst es (Ev.nth es j) → Bk.FirstOk (Bk.begunM ms1 (Bk.first es (es.take j) (Ev.nth es j).key) (Ev.nth es j)) es (es.take (j + 1)) from fun hf => by rw [ev_take (by rw [HL.out]; exact h5)]; exact Bk.firstOk_add FO.out (Ev.nth es j) hf)
          have FS := Lib.hid (show ¬ Bk.isFirst es (Ev.nth es j) → Bk.FirstOk ms1 es (es.take (j + 1)) from fun hf => by rw [ev_take (by rw [HL.out]; exact h5)]; exact Bk.firstOk_skip FO.out (Ev.nth es j) hf)
          have FK := Lib.hid (FO.out (Ev.nth es j).key)
          generalize Ev.nth es j = e at e0 e1 e2 e3 e4 e5 e6 e7 e8 e9 e10 e11 FN FS FK
          have LV := Lib.hid (fun w' h => lives_any (w.heap.size + 1) (some (w.heap.size + 2)) ms es e w' h SO2.out)
          have IF := Lib.hid (show Bk.isFirst es e ↔ (e.k = 1 ∧ Bk.underC es 2 e = false ∧ 0 ≤ e.r ∧ e.r < 5 ∧ 1 ≤ e.n) from Iff.rfl)
          generalize Bk.isFirst es e = P at FN FS IF
          generalize Bk.underC es 2 e = q at LV IF
          generalize Bk.first es (es.take j) e.key = c at FN FK
          clear FO
          go_upto_region 10 with (fail)
          refine wp_named (fun W5 hW => ?_)
          have KA := Lib.hid (show Blk W5 wr.heap.size e.cells 39 by rw [hW]; exact Blk.new wr e.cells 39)
          have M5 := Lib.hid (show Gm tgKey W5 (w.heap.size + 1) ms by rw [hW]; exact M1.out.alloc _)
          have N5 := Lib.hid (show Gm strKey W5 (w.heap.size + 2) ms1 by rw [hW]; exact N1.out.alloc _)
          have Z5 := Lib.hid (show Blk W5 w.heap.size #[.map none, .map none] 132 by rw [hW]; exact Z1.out.alloc _)
          have S5 := Lib.hid (show Blk W5 (w.heap.size + 3) (ScSight (w.heap.size + 1) (w.heap.size + 2)) 132 by rw [hW]; exact S1.out.alloc _)
          have U5 := Lib.hid (show Below w.heap.size w W5 by rw [hW]; exact U1.out.alloc (by omega) _)
          clear hW e0 e1 e2 e3 e4 e5 e6 e7 e8 e9 e10 e11 M1 N1 Z1 S1 U1
          obtain ⟨a0, a1, a2, a3, a4, a5, a6, a7, a8, a9, a10, a11⟩ := KA.out.e12
          have s0 : W5.cell? ⟨w.heap.size + 3, 0, none⟩ = some (.map (some (w.heap.size + 1))) := S5.out.cell rfl
          have s1 : W5.cell? ⟨w.heap.size + 3, 1, none⟩ = some (.map (some (w.heap.size + 2))) := S5.out.cell rfl
          by_cases hk1 : e.k = 1
          rotate_left
          · have d1 : (e.k == 1) = false := by simpa using hk1
            have FF := Lib.hid (FS.out (fun h => hk1 (IF.out.1 h).1))
            clear FS FN IF hk1 LV
            go_wp2
            go_roundw
            case rel => exact ⟨j + 1, _, by rw [HL.out]; omega, by go_num, M5, N5, FF, Z5, S5, U5⟩
            case measure => simp [intOf]; omega
          have d1 : (e.k == 1) = true := by simpa using hk1
          have HK1 := Lib.hid hk1
          clear hk1
          go_wp2_with fail
          refine (LV.out _ M5.out).mono ?_
          rintro x w6 ⟨rfl, hb⟩
          have M6 := Lib.hid (M5.out.up hb)
          have N6 := Lib.hid (N5.out.up hb)
          have Z6 := Lib.hid (Z5.out.up hb)
          have S6 := Lib.hid (S5.out.up hb)
          have KB := Lib.hid (KA.out.up hb)
          have U6 := Lib.hid (U5.out.trans (hb.mono U5.out.size))
          clear hb M5 N5 Z5 S5 U5 s0 s1 a0 a1 a2 a3 a4 a5 a6 a7 a8 a9 a10 a11 KA LV
          obtain ⟨a0, a1, a2, a3, a4, a5, a6, a7, a8, a9, a10, a11⟩ := KB.out.e12
          have s0 : w6.cell? ⟨w.heap.size + 3, 0, none⟩ = some (.map (some (w.heap.size + 1))) := S6.out.cell rfl
          have s1 : w6.cell? ⟨w.heap.size + 3, 1, none⟩ = some (.map (some (w.heap.size + 2))) := S6.out.cell rfl
          cases q
          rotate_left
          · have FF := Lib.hid (FS.out (fun h => by have := (IF.out.1 h).2.1; cases this))
            clear FS FN IF HK1
            go_wp2
            go_roundw
            case rel => exact ⟨j + 1, _, by rw [HL.out]; omega, by go_num, M6, N6, FF, Z6, S6, U6⟩
            case measure => simp [intOf]; omega
          by_cases hr0 : 0 ≤ e.r
          rotate_left
          · have d2 : decide (0 ≤ e.r) = false := by simpa using hr0
            have FF := Lib.hid (FS.out (fun h => hr0 (IF.out.1 h).2.2.1))
            clear FS FN IF HK1 hr0
            go_wp2
            go_roundw
            case rel => exact ⟨j + 1, _, by rw [HL.out]; omega, by go_num, M6, N6, FF, Z6, S6, U6⟩
            case measure => simp [intOf]; omega
          have d2 : decide (0 ≤ e.r) = true := by simpa using hr0
          by_cases hr5 : e.r < 5
          rotate_left
          · have d3 : decide (e.r < 5) = false := by simpa using hr5
            have FF := Lib.hid (FS.out (fun h => hr5 (IF.out.1 h).2.2.2.1))
            clear FS FN IF HK1 hr0 hr5
            go_wp2
            go_roundw
            case rel => exact ⟨j + 1, _, by rw [HL.out]; omega, by go_num, M6, N6, FF, Z6, S6, U6⟩
            case measure => simp [intOf]; omega
          have d3 : decide (e.r < 5) = true := by simpa using hr5
          by_cases hn1 : 1 ≤ e.n
          rotate_left
          · have d4 : decide (1 ≤ e.n) = false := by simpa using hn1
            have FF := Lib.hid (FS.out (fun h => hn1 (IF.out.1 h).2.2.2.2))
            clear FS FN IF HK1 hr0 hr5 hn1
            go_wp2
            go_roundw
            case rel => exact ⟨j + 1, _, by rw [HL.out]; omega, by go_num, M6, N6, FF, Z6, S6, U6⟩
            case measure => simp [intOf]; omega
          have d4 : decide (1 ≤ e.n) = true := by simpa using hn1
          have FF := Lib.hid (FN.out (IF.out.2 ⟨HK1.out, rfl, hr0, hr5, hn1⟩))
          have BG := Lib.hid (begin_any (w.heap.size + 2) (some (w.heap.size + 1)) ms1 c e w6 N6.out FK.out hr0 hr5)
          clear FS FN IF HK1 hr0 hr5 hn1
          go_wp2_with fail
          refine BG.out.mono ?_
          rintro x w7 ⟨rfl, hm, hb⟩
          have N7 := Lib.hid hm
          have M7 := Lib.hid (M6.out.grown hb (by simp))
          have Z7 := Lib.hid (Z6.out.grown hb (by simp))
          have S7 := Lib.hid (S6.out.grown hb (by simp))
          have U7 := Lib.hid (below_by U6.out hb (by omega) (Nat.le_refl _))
          clear hm hb M6 N6 Z6 S6 U6 s0 s1 a0 a1 a2 a3 a4 a5 a6 a7 a8 a9 a10 a11 KB BG
          go_wp2
          go_roundw
          case rel => exact ⟨j + 1, _, by rw [HL.out]; omega, by go_num, M7, N7, FF, Z7, S7, U7⟩
          case measure => simp [intOf]; omega
        · obtain rfl : j = k := by omega
          have FF := Lib.hid (show Bk.FirstOk ms1 es es by have := FO.out; rwa [HE.out] at this)
          have s0 : wr.cell? ⟨w.heap.size + 3, 0, none⟩ = some (.map (some (w.heap.size + 1))) := S1.out.cell rfl
          have s1 : wr.cell? ⟨w.heap.size + 3, 1, none⟩ = some (.map (some (w.heap.size + 2))) := S1.out.cell rfl
          have f0 := Z1.out.frozen 0
          have f1 := Z1.out.frozen 1
          have z0 : wr.cell? ⟨w.heap.size, 0, none⟩ = some (.map none) := Z1.out.cell rfl
          have z1 : wr.cell? ⟨w.heap.size, 1, none⟩ = some (.map none) := Z1.out.cell rfl
          clear FO
          go_wp2
          have K := Blk.set2 Z1.out (.map (some (w.heap.size + 1))) (.map (some (w.heap.size + 2)))
          have M9 := (M1.out.setCell (p := ⟨w.heap.size, 0, none⟩) (by simp) (.map (some (w.heap.size + 1)))).setCell (p := ⟨w.heap.size, 1, none⟩) (by simp) (.map (some (w.heap.size + 2)))
          have N9 := (N1.out.setCell (p := ⟨w.heap.size, 0, none⟩) (by simp) (.map (some (w.heap.size + 1)))).setCell (p := ⟨w.heap.size, 1, none⟩) (by simp) (.map (some (w.heap.size + 2)))
          have U9 := (U1.out.setCell (p := ⟨w.heap.size, 0, none⟩) (by simp) (.map (some (w.heap.size + 1)))).setCell (p := ⟨w.heap.size, 1, none⟩) (by simp) (.map (some (w.heap.size + 2)))
          generalize World.setCell _ ⟨w.heap.size, 1, none⟩ (.map (some (w.heap.size + 2))) = W3 at *
          have k0 := K.cell (j := 0) rfl
          have k1 := K.cell (j := 1) rfl
          exact bodyPost_ret (v := .agg #[.map (some (w.heap.size + 1)), .map (some (w.heap.size + 2))]) (by simp [results, Try.results90, go_sem, k0, k1]) rfl ⟨_, _, rfl, ⟨_, _, M9, SO2.out, N9, FF.out⟩, by omega, by omega, U9⟩
end Go.Proofs.Ytolpfchnfhdhkaa
