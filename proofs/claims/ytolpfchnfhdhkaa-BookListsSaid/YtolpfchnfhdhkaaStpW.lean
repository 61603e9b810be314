/-
  The walks of package stamp.
-/
import Derived.Test.YtolpfchnfhdhkaaStp
import Derived.Laws.StructEq
namespace Go.Proofs.Ytolpfchnfhdhkaa
open Go.RowKit
set_option maxRecDepth 100000

/-- Element k of a slice of stamps. -/
theorem stp_at {w W : World} {b off n cap : Nat} {xs : List Stp} (h : Sl w 2 (some ⟨b, off, none⟩) n cap (Stp.flat xs)) (hb : Below w.heap.size w W) {k : Nat} (hk : k < xs.length) :
    W.cell? ⟨b, off + k * 2, none⟩ = some (.int .i64 (Stp.nth xs k).h) ∧ W.cell? ⟨b, off + k * 2 + 1, none⟩ = some (.int .i64 (Stp.nth xs k).r) := by
  have hl := h.1
  rw [Stp.flat_length] at hl
  obtain ⟨b', off', e, hbl, hcell⟩ := h.2.2.2 (by omega)
  obtain ⟨rfl, rfl⟩ : b = b' ∧ off = off' := by simpa using e
  obtain ⟨h0, h1⟩ := Stp.flat_nth xs k hk
  exact ⟨(hb.cell (p := ⟨b, off + k * 2, none⟩) hbl).trans (hcell _ _ h0), (hb.cell (p := ⟨b, off + k * 2 + 1, none⟩) hbl).trans (hcell _ _ h1)⟩

theorem Blk.st {w : World} {b : Nat} {s : Stp} {t : TypeId} (h : Blk w b s.cells t) : w.cell? ⟨b, 0, none⟩ = some (.int .i64 s.h) ∧ w.cell? ⟨b, 1, none⟩ = some (.int .i64 s.r) := ⟨h.cell rfl, h.cell rfl⟩
def LatRel (w : World) (xs : List Stp) (v : Value) (W : World) : Prop :=
  ∃ k : Nat, k ≤ xs.length ∧ v = .int .i64 k ∧ Blk W w.heap.size #[.int .i64 0, .int .i64 0] 82 ∧ Blk W (w.heap.size + 1) (Stp.mx (xs.take k)).cells 82 ∧ Below w.heap.size w W
set_option maxHeartbeats 400000 in
theorem latest_any (A : Option Addr) (cap : Nat) (xs : List Stp) (w : World) (h : Sl w 2 A xs.length cap (Stp.flat xs)) :
    Calls Try.prog 123 #[.slice A xs.length cap] w fun e w' => e = .returned (Stp.mx xs).val ∧ Below w.heap.size w w' := by
  have hn : xs.length ≤ 9223372036854775807 := Nat.le_trans h.2.1 h.2.2.1
  have H := Lib.hid h; clear h
  have C1 := Lib.hid (fun a b w => less_any a b w)
  unfold Stp.val at *
  go_enter Try.func123, Try.ntmps123
  go_wp2
  go_loopw [8] (fun v W => LatRel w xs v W) (fun v _ => xs.length - (intOf v).toNat)
  case atStart => exact ⟨0, by omega, rfl, (Blk.new w _ _).alloc _, by simpa [Stp.mx, Stp.cells] using Blk.new (w.alloc (.cells #[.int .i64 0, .int .i64 0] 82)) #[.int .i64 0, .int .i64 0] 82, ((Below.refl _ _).alloc (Nat.le_refl _) _).alloc (by simp) _⟩
  case round =>
    obtain ⟨k, hk, rfl, hB2, hB3, hb⟩ := hrel
    have H2 := Lib.hid hB2; have H3 := Lib.hid hB3; have HB := Lib.hid hb; clear hB2 hB3 hb
    by_cases hlt : k < xs.length
    · obtain ⟨b, off, rfl, hbl, hcell⟩ := H.out.2.2.2 (by omega)
      clear hcell
      obtain ⟨e0, e1⟩ := stp_at H.out HB.out hlt
      have hs := H3.out.lt
      have hw : wr.heap.size ≠ w.heap.size + 1 := by omega
      have hw' : w.heap.size + 1 ≠ wr.heap.size := by omega
      have MT := Lib.hid (Stp.mx_take xs k hlt)
      generalize Stp.mx (xs.take k) = m at *
      generalize Stp.nth xs k = x at *
      have f0 : wr.cell? ⟨w.heap.size + 1, 0, none⟩ = some (.int .i64 m.h) := H3.out.cell rfl
      have f1 : wr.cell? ⟨w.heap.size + 1, 1, none⟩ = some (.int .i64 m.r) := H3.out.cell rfl
      have g0 := H3.out.frozen 0
      have g1 := H3.out.frozen 1
      by_cases h0 : k = 0
      · subst h0
        simp only [Nat.zero_mul, Nat.add_zero] at e0 e1
        go_wp2
        go_roundw
        case rel => exact ⟨1, hlt, rfl, (H2.out.other2 (by simp) (by simp) _ _).alloc _, by rw [MT.out, if_pos rfl]; exact (H3.out.set2 _ _).alloc _, ((HB.out.setCell (by simp) _).setCell (by simp) _).alloc (by simp; exact HB.out.size) _⟩
        case measure => simp [intOf]; omega
      · have h0' : ((k : Int) == 0) = false := by simp; omega
        rw [if_neg h0] at MT
        go_wp2_with fail
        refine (C1.out m x _).mono ?_
        rintro e w1 ⟨rfl, hb1⟩
        have u1 : Lex.Up wr w1 := ((Below.refl _ _).alloc (Nat.le_refl _) _).trans (hb1.mono (by simp))
        have H2' := Lib.hid (H2.out.up u1); have H3' := Lib.hid (H3.out.up u1); have HB' := Lib.hid (HB.out.trans (u1.mono HB.out.size))
        have H5 := (Blk.new wr #[.int .i64 x.h, .int .i64 x.r] 82).up hb1
        clear H2 H3 HB e0 e1 f0 f1 g0 g1
        have e0 := H5.cell (j := 0) rfl
        have e1 := H5.cell (j := 1) rfl
        have g0 := H3'.out.frozen 0
        have g1 := H3'.out.frozen 1
        have f0 : w1.cell? ⟨w.heap.size + 1, 0, none⟩ = some (.int .i64 m.h) := H3'.out.cell rfl
        have f1 : w1.cell? ⟨w.heap.size + 1, 1, none⟩ = some (.int .i64 m.r) := H3'.out.cell rfl
        clear H5 hb1 u1
        cases hl : m.less x
        · rw [if_neg (by simp [hl])] at MT
          go_wp2
          go_roundw
          case rel => exact ⟨k + 1, hlt, by go_num, H2'.out, by rw [MT.out]; exact H3'.out, HB'.out⟩
          case measure => simp [intOf]; omega
        · rw [if_pos hl] at MT
          go_wp2
          go_roundw
          case rel => exact ⟨k + 1, hlt, by go_num, H2'.out.other2 (by simp) (by simp) _ _, by rw [MT.out]; exact H3'.out.set2 _ _, (HB'.out.setCell (by simp) _).setCell (by simp) _⟩
          case measure => simp [intOf]; omega
    · obtain rfl : k = xs.length := by omega
      rw [List.take_length] at H3
      obtain ⟨m, hm⟩ : ∃ m, Stp.mx xs = m := ⟨_, rfl⟩
      rw [hm] at H3
      have HM := Lib.hid hm; clear hm
      have f0 : wr.cell? ⟨w.heap.size + 1, 0, none⟩ = some (.int .i64 m.h) := H3.out.cell rfl
      have f1 : wr.cell? ⟨w.heap.size + 1, 1, none⟩ = some (.int .i64 m.r) := H3.out.cell rfl
      have g0 := H2.out.frozen 0
      have g1 := H2.out.frozen 1
      have z0 : wr.cell? ⟨w.heap.size, 0, none⟩ = some (.int .i64 0) := H2.out.cell rfl
      have z1 : wr.cell? ⟨w.heap.size, 1, none⟩ = some (.int .i64 0) := H2.out.cell rfl
      go_wp2
      have K := H2.out.set2 (.int .i64 m.h) (.int .i64 m.r)
      have B := (HB.out.setCell (p := ⟨w.heap.size, 0, none⟩) (by simp) (.int .i64 m.h)).setCell (p := ⟨w.heap.size, 1, none⟩) (by simp) (.int .i64 m.r)
      generalize (wr.setCell ⟨w.heap.size, 0, none⟩ (.int .i64 m.h)).setCell ⟨w.heap.size, 1, none⟩ (.int .i64 m.r) = W at *
      have k0 := K.cell (j := 0) rfl
      have k1 := K.cell (j := 1) rfl
      exact bodyPost_ret (v := .agg #[.int .i64 m.h, .int .i64 m.r]) (by simp [results, Try.results123, go_sem, k0, k1]) rfl ⟨by rw [HM.out], B⟩

/-- Two stamps compared. -/
theorem eq_stp (a0 a1 b0 b1 : Int) (w : World) : (Op.equalIn 10000 82 (.agg #[.int .i64 a0, .int .i64 a1]) (.agg #[.int .i64 b0, .int .i64 b1])).run Try.prog w = .ok (decide (a0 = b0 ∧ a1 = b1)) w := by
  have u5 := Try.underlying3
  have a5 := Try.isAgg3
  have z5 := Try.sizeOf3
  rw [show (10000 : Nat) = 9999 + 1 from rfl, run_equalIn_struct w 9999 82 _ _ (by kernel_rfl) (by kernel_rfl)]
  have u23 := Try.underlying82
  go_simp
  by_cases h0 : a0 = b0 <;> by_cases h1 : a1 = b1 <;> simp [h0, h1]
theorem eq_two (a b : Stp) (w : World) : (Op.equalIn 10000 82 (.agg #[.int .i64 a.h, .int .i64 a.r]) (.agg #[.int .i64 b.h, .int .i64 b.r])).run Try.prog w = .ok (decide (a = b)) w := by
  rw [eq_stp]
  simp only [Stp.ext_iff']

def LastRel (w : World) (xs : List Stp) (B : Nat) (v : Value) (W : World) : Prop :=
  ∃ k : Nat, k ≤ xs.length ∧ v = .int .i64 k ∧ (∀ j, j < k → Stp.nth xs j ≠ Stp.mx xs) ∧ Blk W B (Stp.mx xs).cells 82 ∧ Below w.heap.size w W
set_option maxHeartbeats 400000 in
theorem last_any (A : Option Addr) (cap : Nat) (xs : List Stp) (w : World) (h : Sl w 2 A xs.length cap (Stp.flat xs)) :
    Calls Try.prog 104 #[.slice A xs.length cap] w fun e w' => e = .returned (.int .i64 (Stp.last xs)) ∧ Below w.heap.size w w' := by
  have hn : xs.length ≤ 9223372036854775807 := Nat.le_trans h.2.1 h.2.2.1
  have H := Lib.hid h; clear h
  have C1 := Lib.hid (fun w h => latest_any A cap xs w h)
  have Q := Lib.hid (fun a b w => eq_two a b w)
  obtain ⟨m, hm⟩ : ∃ m, Stp.mx xs = m := ⟨_, rfl⟩
  rw [hm] at C1
  have HM := Lib.hid hm; clear hm
  unfold Stp.val at *
  go_enter Try.func104, Try.ntmps104
  go_wp2_with fail
  refine (C1.out _ H.out).mono ?_
  rintro e w1 ⟨rfl, hb1⟩
  have B1 := Lib.hid (hb1.alloc hb1.size (.cells #[.int .i64 m.h, .int .i64 m.r] 82))
  go_wp2
  go_loopw [10] (fun v W => LastRel w xs w1.heap.size v W) (fun v _ => xs.length - (intOf v).toNat)
  case atStart => exact ⟨0, by omega, rfl, fun j h => absurd h (by omega), by rw [HM.out]; exact Blk.new w1 _ _, B1.out⟩
  case round =>
    obtain ⟨k, hk, rfl, hne, hB, hb⟩ := hrel
    rw [HM.out] at hB hne
    have HN := Lib.hid hne; have H3 := Lib.hid hB; have HB := Lib.hid hb; clear hB hb hne
    by_cases hlt : k < xs.length
    · obtain ⟨b, off, rfl, hbl, hcell⟩ := H.out.2.2.2 (by omega)
      clear hcell
      obtain ⟨e0, e1⟩ := stp_at H.out HB.out hlt
      obtain ⟨x, hx⟩ : ∃ x, Stp.nth xs k = x := ⟨_, rfl⟩
      rw [hx] at e0 e1
      have HX := Lib.hid hx; clear hx
      have hs := H3.out.lt
      have f0 : wr.cell? ⟨w1.heap.size, 0, none⟩ = some (.int .i64 m.h) := H3.out.cell rfl
      have f1 : wr.cell? ⟨w1.heap.size, 1, none⟩ = some (.int .i64 m.r) := H3.out.cell rfl
      have hq : ∀ w, _ := fun w => Q.out x m w
      have hw : wr.heap.size ≠ w1.heap.size := by omega
      have hw' : w1.heap.size ≠ wr.heap.size := by omega
      by_cases hd : x = m
      · have d : decide (x = m) = true := by simpa using hd
        rw [d] at hq
        have HD := Lib.hid hd; clear hd d
        go_wp2
        go_ret
        exact ⟨by rw [Stp.last_eq hlt (by rw [HX.out, HM.out, HD.out]) (by rw [HM.out]; exact HN.out)]; rfl, HB.out.alloc (HB.out.size) _⟩
      · have d : decide (x = m) = false := by simpa using hd
        rw [d] at hq
        have HD := Lib.hid hd; clear hd d
        go_wp2
        go_roundw
        case rel => exact ⟨k + 1, hlt, by go_num, fun j hj => by
          rw [HM.out]
          by_cases e : j = k
          · subst e; rw [HX.out]; exact HD.out
          · exact HN.out j (by omega), by rw [HM.out]; exact H3.out.alloc _, HB.out.alloc (HB.out.size) _⟩
        case measure => simp [intOf]; omega
    · obtain rfl : k = xs.length := by omega
      go_wp2
      go_ret
      refine ⟨?_, HB.out⟩
      by_cases h0 : 0 < xs.length
      · obtain ⟨j, hj, e⟩ := Stp.mx_is h0
        exact absurd (e.symm.trans HM.out) (HN.out j hj)
      · have : xs = [] := List.eq_nil_of_length_eq_zero (by omega)
        rw [this]; rfl
end Go.Proofs.Ytolpfchnfhdhkaa
