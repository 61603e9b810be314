/-
  The walk of the head of all statements of layer 2: the document's examples.
-/
import Derived.Test.YtlhcidpegglnfaaROpen
import Derived.Lib.SlBytesConst
namespace Go.Proofs.Ytlhcidpegglnfaa
open Go.RowKit

theorem sum_none : Cr.sum [] = 0 := by decide
theorem sum_digits : Cr.sum [49, 50, 51, 52, 53, 54, 55, 56, 57] = 3421780262 := by kernel_rfl

set_option maxRecDepth 100000 in
set_option maxHeartbeats 800000 in
theorem shown_any (w : World) : Calls Try.prog 9 #[] w fun e w' => e = .returned (.bool true) ∧ Below w.heap.size w w' := by
  have S1 := Lib.hid (slc_new (w := w.alloc (.cells #[.int .u8 120] 5 (1, 2))) (g := w.heap.size) [120] (heap_alloc_new _ _) (by decide) (by decide))
  have C1 := Lib.hid (seal_any _ _ _ _ _ S1.out (by decide))
  have hbA := (Below.refl w.heap.size w).alloc (Nat.le_refl _) (.cells #[.int .u8 120] 5 (1, 2))
  have ho : Cr.opens (Cr.sealed [120]) = true := Cr.opens_sealed _
  have hl : (Cr.sealed [120]).length = 5 := Cr.sealed_len _
  have ht : (Cr.sealed [120]).take 1 = [120] := by have := Cr.sealed_take [120]; rw [hl] at this; exact this
  have hx : ∀ x ∈ Cr.sealed [120], x < 256 := Cr.sealed_lt (by decide)
  generalize Cr.sealed [120] = p at *
  have CO := Lib.hid (fun A cap w (h : Slc w A 5 cap p) => open_any A 5 cap p w h (by decide))
  have CS := Lib.hid (fun A n cap xs w (h : Slc w A n cap xs) => sum_any A n cap xs w h)
  have HO := Lib.hid ho
  have HT := Lib.hid ht
  have HX := Lib.hid hx
  have HL := Lib.hid hl
  have HA := Lib.hid hbA
  clear ho ht hx hl hbA
  have kc1 : ∀ w : World, (convert 22 22 (.slice (some ⟨w.heap.size, 0, none⟩) 1 1)).run Try.prog (w.alloc (.cells #[.int .u8 120] 5)) = .ok (.slice (some ⟨w.heap.size, 0, none⟩) 1 1) (w.alloc (.cells #[.int .u8 120] 5 (1, 2))) :=
    fun w => Lib.run_convert_bytes_const (P := Try.prog) w 22 5 _ 1 1 Try.underlying22 Try.underlying5
  have kc9 : ∀ w : World, (convert 22 22 (.slice (some ⟨w.heap.size, 0, none⟩) 9 9)).run Try.prog (w.alloc (.cells #[.int .u8 49, .int .u8 50, .int .u8 51, .int .u8 52, .int .u8 53, .int .u8 54, .int .u8 55, .int .u8 56, .int .u8 57] 5)) = .ok (.slice (some ⟨w.heap.size, 0, none⟩) 9 9) (w.alloc (.cells #[.int .u8 49, .int .u8 50, .int .u8 51, .int .u8 52, .int .u8 53, .int .u8 54, .int .u8 55, .int .u8 56, .int .u8 57] 5 (9, 10))) :=
    fun w => Lib.run_convert_bytes_const (P := Try.prog) w 22 5 _ 9 9 Try.underlying22 Try.underlying5
  go_enter Try.func9, Try.ntmps9
  go_wp2_with fail
  refine C1.out.mono ?_
  rintro e w1 ⟨A, cA, rfl, hown1, hb1⟩
  have s1 := slc_of_own hown1 HX.out
  rw [HL.out] at s1
  have SP := Lib.hid s1
  have hB1 := Lib.hid (HA.out.trans (hb1.mono (by simp)))
  have lp : p.length = 5 := HL.out
  clear hown1 s1 hb1
  go_wp2_with fail
  refine (CO.out _ _ _ SP.out).mono ?_
  unfold OpenPost
  rintro e w2 ⟨hb2, ⟨_, v, rfl, hown2⟩ | ⟨h1, _⟩⟩
  · rw [HL.out, show 5 - 4 = 1 from rfl, HT.out] at hown2
    obtain ⟨A2, c2, rfl, s2⟩ := slc_of_own2 hown2 (by decide)
    have hB2 := Lib.hid (hB1.out.trans (hb2.mono hB1.out.size))
    have S2 := Lib.hid s2
    clear hown2 s2 hb2 lp
    have SN : Hid (Slc w2 none 0 0 []) := ⟨rfl, Nat.le_refl _, by decide, fun j => by simp [Pl.nth], fun h => by omega⟩
    go_wp2_with fail
    refine (CS.out none 0 0 [] _ SN.out).mono ?_
    rintro e w' ⟨rfl, rfl⟩
    rw [sum_none]
    have S3 := Lib.hid (slc_new (w := w2.alloc (.cells #[.int .u8 49, .int .u8 50, .int .u8 51, .int .u8 52, .int .u8 53, .int .u8 54, .int .u8 55, .int .u8 56, .int .u8 57] 5 (9, 10))) (g := w2.heap.size) [49, 50, 51, 52, 53, 54, 55, 56, 57] (heap_alloc_new _ _) (by decide) (by decide))
    have hB3 := Lib.hid (hB2.out.alloc hB2.out.size (.cells #[.int .u8 49, .int .u8 50, .int .u8 51, .int .u8 52, .int .u8 53, .int .u8 54, .int .u8 55, .int .u8 56, .int .u8 57] 5 (9, 10)))
    go_wp2_with fail
    refine (CS.out _ _ _ _ _ S3.out).mono ?_
    rintro e w' ⟨rfl, rfl⟩
    rw [sum_digits]
    have cv := conv_slc (S2.out.below ((Below.refl w2.heap.size w2).alloc (Nat.le_refl _) (.cells #[.int .u8 49, .int .u8 50, .int .u8 51, .int .u8 52, .int .u8 53, .int .u8 54, .int .u8 55, .int .u8 56, .int .u8 57] 5 (9, 10))))
    have hst : ((str [120]).toList == [120]) = true := by rw [ByteArray.toList_eq]; decide
    go_wp2
    go_ret
    exact ⟨rfl, hB3.out⟩
  · rw [HO.out] at h1; cases h1
end Go.Proofs.Ytlhcidpegglnfaa
