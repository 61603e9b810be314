/-
  What the rules write.
-/
import Derived.Test.YtolpfchnfhdhkaaOfa
import Derived.Test.YtolpfchnfhdhkaaDrx
namespace Go.Proofs.Ytolpfchnfhdhkaa
open Go.RowKit
set_option maxRecDepth 100000
set_option maxRecDepth 100000

theorem lab_of (l : Int) (h : Dr.lab l = true) : ∃ k : Nat, l = k ∧ k < 2 := by
  rw [Bk.lab_iff] at h
  exact ⟨l.toNat, by omega, by omega⟩
theorem DrPost.of_up {w w' : World} {B p : Nat} {own : Nat → Option (Nat × Nat)} {vs : Nat → Value} {D : Nat → Nat × List Value} (h : DrW w B own p vs D) (hu : Lex.Up w w') : DrPost w w' B own p D :=
  ⟨⟨own, vs, h.up hu, ownExt_refl _ _ _ _⟩, ModBy.of_up hu own p⟩
theorem dadd_no (p : Value) (e : Ev) (w : World) (hl : Dr.lab e.l = false) : Calls Try.prog 100 #[p, e.val] w fun x w' => x = .returned (.tuple #[]) ∧ Lex.Up w w' := by
  have LB := Lib.hid (fun w => isLabel_any e.l w)
  rw [hl] at LB
  have K0 := Lib.hid (Blk.new w e.cells 39)
  have U0 := Lib.hid (show Lex.Up w (w.alloc (.cells e.cells 39)) from (Below.refl _ _).alloc (Nat.le_refl _) _)
  obtain ⟨W, hW⟩ : ∃ W, W = w.alloc (.cells e.cells 39) := ⟨_, rfl⟩
  rw [← hW] at K0 U0
  obtain ⟨a0, a1, a2, a3, a4, a5, a6, a7, a8, a9, a10, a11⟩ := K0.out.e12
  unfold Ev.cells at hW
  unfold Ev.val at *
  clear hl
  go_enter Try.func100, Try.ntmps100
  go_upto_region 1 with (fail)
  refine wp_named (fun W2 hW2 => ?_)
  obtain rfl : W2 = W := by rw [hW2, hW]
  clear hW hW2
  go_wp2_with fail
  refine (LB.out _).mono ?_
  rintro x w' ⟨rfl, rfl⟩
  go_wp2
  go_end0
  exact ⟨rfl, U0.out⟩
theorem dset_no (p : Value) (e : Ev) (w : World) (hl : Dr.lab e.l = false) : Calls Try.prog 97 #[p, e.val] w fun x w' => x = .returned (.tuple #[]) ∧ Lex.Up w w' := by
  have LB := Lib.hid (fun w => isLabel_any e.l w)
  rw [hl] at LB
  have K0 := Lib.hid (Blk.new w e.cells 39)
  have U0 := Lib.hid (show Lex.Up w (w.alloc (.cells e.cells 39)) from (Below.refl _ _).alloc (Nat.le_refl _) _)
  obtain ⟨W, hW⟩ : ∃ W, W = w.alloc (.cells e.cells 39) := ⟨_, rfl⟩
  rw [← hW] at K0 U0
  obtain ⟨a0, a1, a2, a3, a4, a5, a6, a7, a8, a9, a10, a11⟩ := K0.out.e12
  unfold Ev.cells at hW
  unfold Ev.val at *
  clear hl
  go_enter Try.func97, Try.ntmps97
  go_upto_region 1 with (fail)
  refine wp_named (fun W2 hW2 => ?_)
  obtain rfl : W2 = W := by rw [hW2, hW]
  clear hW hW2
  go_wp2_with fail
  refine (LB.out _).mono ?_
  rintro x w' ⟨rfl, rfl⟩
  go_wp2
  go_end0
  exact ⟨rfl, U0.out⟩
theorem write4_any (B p : Nat) (own : Nat → Option (Nat × Nat)) (vs : Nat → Value) (D : Nat → Nat × List Value) (e : Ev) (w : World) (h : DrW w B own p vs D) (hB : B ≤ w.heap.size) (hn : ∀ j, j < 6 → (D j).1 ≤ 1000000) (hk : e.k = 4) :
    Calls Try.prog 100 #[.pointer (some ⟨p, 0, none⟩), e.val] w fun x w' => x = .returned (.tuple #[]) ∧ DrPost w w' B own p (Bk.wr D e) := by
  unfold Bk.wr
  have n3 : ¬ e.k = 3 := by omega
  cases hl : Dr.lab e.l
  · rw [if_neg (by simp)]
    refine (dadd_no _ e w hl).mono ?_
    rintro x w' ⟨rfl, hu⟩
    exact ⟨rfl, DrPost.of_up h hu⟩
  · obtain ⟨k, he, hk2⟩ := lab_of _ hl
    rw [if_pos rfl, if_neg n3, if_pos hk, show e.l.toNat = k by omega]
    exact dadd_any B p k own vs D e w h hB hn hk2 he
theorem write3_any (B p : Nat) (own : Nat → Option (Nat × Nat)) (vs : Nat → Value) (D : Nat → Nat × List Value) (e : Ev) (w : World) (h : DrW w B own p vs D) (hB : B ≤ w.heap.size) (hfr : ∀ g, w.heap.size ≤ g → own g = none) (hn : ∀ j, j < 6 → (D j).1 ≤ 1000000) (hk : e.k = 3) :
    Calls Try.prog 97 #[.pointer (some ⟨p, 0, none⟩), e.val] w fun x w' => x = .returned (.tuple #[]) ∧ DrPost w w' B own p (Bk.wr D e) := by
  unfold Bk.wr
  cases hl : Dr.lab e.l
  · rw [if_neg (by simp)]
    refine (dset_no _ e w hl).mono ?_
    rintro x w' ⟨rfl, hu⟩
    exact ⟨rfl, DrPost.of_up h hu⟩
  · obtain ⟨k, he, hk2⟩ := lab_of _ hl
    rw [if_pos rfl, if_pos hk, show e.l.toNat = k by omega]
    exact dset_any B p k own vs D e w h hB hfr hn hk2 he
theorem write1_any (B p : Nat) (own : Nat → Option (Nat × Nat)) (vs : Nat → Value) (D : Nat → Nat × List Value) (e : Ev) (w : World) (h : DrW w B own p vs D) (hk : e.k = 1) :
    Calls Try.prog 93 #[.pointer (some ⟨p, 0, none⟩), e.val] w fun x w' => x = .returned (.tuple #[]) ∧ DrPost w w' B own p (Bk.wr D e) := by
  have hw : Bk.wr D e = D := by
    unfold Bk.wr
    rw [if_neg (show ¬ e.k = 3 by omega), if_neg (show ¬ e.k = 4 by omega), ite_self]
  rw [hw]
  refine (nothing_any _ e w).mono ?_
  rintro x w' ⟨rfl, hu⟩
  exact ⟨rfl, DrPost.of_up h hu⟩
end Go.Proofs.Ytolpfchnfhdhkaa
