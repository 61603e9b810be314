/-
  The walk of event.Take.
-/
import Derived.Test.YthgfbnkggdlokaaEvN
namespace Go.Proofs.Ythgfbnkggdlokaa
open Go.RowKit
set_option maxRecDepth 100000

namespace Fl
theorem octR_ok {lo hi : Int} {xs : List Nat} (h : (octR lo hi xs).2.2 = 0) : lo ≤ ((octR lo hi xs).1 : Int) ∧ ((octR lo hi xs).1 : Int) ≤ hi := by
  cases xs with
  | nil => simp [octR] at h
  | cons x xs =>
    rw [octR] at h ⊢
    split at h
    · simp at h
    · rename_i h1
      rw [if_neg h1]
      simp only
      omega
theorem numR_ok {lo hi : Int} {xs : List Nat} (h : (numR lo hi xs).2.2 = 0) : lo ≤ ((numR lo hi xs).1 : Int) ∧ ((numR lo hi xs).1 : Int) ≤ hi := by
  unfold numR at h ⊢
  split at h
  · rename_i h1; exact absurd h h1
  · rename_i h1
    rw [if_neg h1]
    split at h
    · simp at h
    · rename_i h2
      rw [if_neg h2]
      simp only
      omega
end Fl
theorem key_below (s : ByteArray) (W : World) : Calls Try.prog 113 #[.string s] W fun x w' => x = .returned (.int .i64 (Tx.key s)) ∧ Below W.heap.size W w' := key_any s W

/-- The row of all fields. -/
theorem all_row {b lo : Nat} {w1 w2 w3 w4 w5 w6 w7 : World} {g1 g2 g3 g4 g5 g6 g7 : Nat} {c1 c2 c3 c4 c5 c6 c7 : Array Value} {l1 l2 l3 l5 l6 : Nat}
    (h1 : LeafAt l1 w1.heap.size w1 (.func (.func g1) #[] c1) ⟨b, 8, none⟩ (fun m : Nat => .int .i64 (m : Nat)) (Fl.octR 1 5))
    (h2 : LeafAt l2 w2.heap.size w2 (.func (.func g2) #[] c2) ⟨b, 0, none⟩ (fun m : Nat => .int .i64 (m : Nat)) (Fl.octR 0 4))
    (h3 : LeafAt l3 w3.heap.size w3 (.func (.func g3) #[] c3) ⟨b, 1, none⟩ (fun m : Nat => .int .i64 (m : Nat)) (Fl.numR 1 1048576))
    (h4 : FieldOk b lo w4.heap.size w4 (.func (.func g4) #[] c4) Fl.seenF seenPre)
    (h5 : LeafAt l5 w5.heap.size w5 (.func (.func g5) #[] c5) ⟨b, 7, none⟩ (fun m : Nat => .int .i64 (m : Nat)) (Fl.numR 1 16777216))
    (h6 : LeafAt l6 w6.heap.size w6 (.func (.func g6) #[] c6) ⟨b, 9, none⟩ Value.string (Fl.wrdR 8 Tx.key))
    (h7 : FieldOk b lo w7.heap.size w7 (.func (.func g7) #[] c7) Fl.writtenF (fun _ => True))
    (u2 : Lex.Up w1 w2) (u3 : Lex.Up w2 w3) (u4 : Lex.Up w3 w4) (u5 : Lex.Up w4 w5) (u6 : Lex.Up w5 w6) (u7 : Lex.Up w6 w7)
    (hb : b < lo) (k1 : lo ≤ l1) (k2 : lo ≤ l2) (k3 : lo ≤ l3) (k5 : lo ≤ l5) (k6 : lo ≤ l6) (hw : lo ≤ w7.heap.size) (t : TypeId) :
    Calls Try.prog 121 #[.slice (some ⟨w7.heap.size, 0, none⟩) 7 7] (w7.alloc (.cells #[.func (.func g1) #[] c1, .func (.func g2) #[] c2, .func (.func g3) #[] c3, .func (.func g4) #[] c4, .func (.func g5) #[] c5, .func (.func g6) #[] c6, .func (.func g7) #[] c7] t)) fun x w' =>
      ∃ F, x = .returned F ∧ Lex.Up (w7.alloc (.cells #[.func (.func g1) #[] c1, .func (.func g2) #[] c2, .func (.func g3) #[] c3, .func (.func g4) #[] c4, .func (.func g5) #[] c5, .func (.func g6) #[] c6, .func (.func g7) #[] c7] t)) w' ∧ FieldOk b lo w'.heap.size w' F (Fl.row Fl.all) (fun _ => True) := by
  generalize hcs : (#[.func (.func g1) #[] c1, .func (.func g2) #[] c2, .func (.func g3) #[] c3, .func (.func g4) #[] c4, .func (.func g5) #[] c5, .func (.func g6) #[] c6, .func (.func g7) #[] c7] : Array Value) = cs
  have hsz : (w7.alloc (.cells cs t)).heap.size = w7.heap.size + 1 := by simp
  have a7 := up_blk (cs := cs) (t := t) (Lex.Up.refl w7)
  have a6 := u7.trans a7
  have a5 := u6.trans a6
  have a4 := u5.trans a5
  have a3 := u4.trans a4
  have a2 := u3.trans a3
  have a1 := u2.trans a2
  have z2 := u2.size; have z3 := u3.size; have z4 := u4.size; have z5 := u5.size; have z6 := u6.size; have z7 := u7.size
  have hB := Blk.new w7 cs t
  refine row_any b lo (w7.heap.size + 1) _ [.func (.func g1) #[] c1, .func (.func g2) #[] c2, .func (.func g3) #[] c3, .func (.func g4) #[] c4, .func (.func g5) #[] c5, .func (.func g6) #[] c6, .func (.func g7) #[] c7] Fl.all (fun _ => True) ?_ w7.heap.size 0 7 hb (by rw [hsz]; exact Nat.le_refl _) hw (by omega) (fun j F hj => ?_) (by simp)
  · refine ⟨fK (h1.up a1 (Nat.le_refl _) k1 (by omega)) _, Fl.leaf_le (Fl.octR_le 1 5), fun _ => True, fun _ _ _ _ => trivial,
      fR (h2.up a2 (Nat.le_refl _) k2 (by omega)) _, Fl.leaf_le (Fl.octR_le 0 4), fun e => 0 ≤ e.r ∧ e.r < 5, fun e xs _ hz => ?_,
      fN (h3.up a3 (Nat.le_refl _) k3 (by omega)) _, Fl.leaf_le (Fl.numR_le 1 1048576), seenPre, fun e xs hp hz => ?_,
      h4.later (Keep.up a4 (Nat.le_refl _)) (Nat.le_refl _) (by omega), Fl.seenF_le, fun _ => True, fun _ _ _ _ => trivial,
      fH (h5.up a5 (Nat.le_refl _) k5 (by omega)) _, Fl.leaf_le (Fl.numR_le 1 16777216), fun _ => True, fun _ _ _ _ => trivial,
      fKey (h6.up a6 (Nat.le_refl _) k6 (by omega)) _, Fl.leaf_le (Fl.wrdR_le 8 Tx.key), fun _ => True, fun _ _ _ _ => trivial,
      h7.later (Keep.up a7 (Nat.le_refl _)) (Nat.le_refl _) (by omega), Fl.writtenF_le, fun _ => True, fun _ _ _ _ => trivial, trivial⟩
    · unfold Fl.leaf at hz ⊢
      by_cases h : (Fl.octR 0 4 xs).2.2 = 0
      · rw [if_pos h]
        have := Fl.octR_ok h
        simp only [Fl.setR]
        omega
      · rw [if_neg h] at hz; exact absurd hz h
    · unfold Fl.leaf at hz ⊢
      by_cases h : (Fl.numR 1 1048576 xs).2.2 = 0
      · rw [if_pos h]
        have := Fl.numR_ok h
        exact ⟨hp.1, hp.2, this.1, this.2⟩
      · rw [if_neg h] at hz; exact absurd hz h
  · rw [Nat.zero_add]
    refine hB.cell ?_
    rw [← hcs]
    simpa using hj

set_option maxRecDepth 100000 in
set_option maxHeartbeats 4000000 in
theorem etake_any (A : Option Addr) (n cap : Nat) (xs : List Nat) (w : World) (hs : Slc w A n cap xs) :
    Calls Try.prog 102 #[.slice A n cap] w fun x w' => x = .returned (.tuple #[(Fl.takeF xs).1.val, .int .i64 ((Fl.takeF xs).2.1 : Nat), .int .i64 ((Fl.takeF xs).2.2 : Nat)]) ∧ Below w.heap.size w w' := by
  have CO := Lib.hid (fun p lo hi w => octet_any p lo hi w)
  have CN1 := Lib.hid (fun p w => number_any p 1 1048576 (by decide) w)
  have CN2 := Lib.hid (fun p w => number_any p 1 16777216 (by decide) w)
  have eg := enters Try.func113 (by kernel_rfl) rfl
  have CS := Lib.hid (fun p w => words_any p 8 113 Tx.key key_below eg w)
  have e0 : Fl.takeF xs = if (Fl.row Fl.all Ev.zero xs).2.2 = 0 then Fl.row Fl.all Ev.zero xs else (Ev.zero, 0, (Fl.row Fl.all Ev.zero xs).2.2) := rfl
  obtain ⟨R, hR⟩ : ∃ R, Fl.takeF xs = R := ⟨_, rfl⟩
  rw [hR] at e0 ⊢
  have HR := Lib.hid e0
  clear hR e0 eg
  have HS := Lib.hid hs
  have HB := Lib.hid (Blk.new w Ev.zero.cells 51)
  have U0 := Lib.hid (show Lex.Up w (w.alloc (.cells Ev.zero.cells 51)) from up_blk (Lex.Up.refl w))
  have hsb : SlcB w.heap.size w A n cap xs := ⟨hs, fun h0 x hx => by obtain ⟨b', off, rfl, hbl, -⟩ := hs.2.2.2.2 h0; simp at hx; subst hx; exact Nat.ne_of_lt hbl⟩
  have HT := Lib.hid hsb
  clear hs hsb
  obtain ⟨W, hW⟩ : ∃ W, W = w.alloc (.cells Ev.zero.cells 51) := ⟨_, rfl⟩
  rw [← hW] at HB U0
  have HZ := Lib.hid (show w.heap.size + 1 ≤ W.heap.size by rw [hW]; simp)
  go_enter Try.func102, Try.ntmps102
  go_upto_region 1 with (fail)
  refine wp_named (fun W2 hW2 => ?_)
  obtain rfl : W2 = W := by rw [hW2, hW]; rfl
  clear hW hW2
  go_wp2_with fail
  refine (CO.out _ 1 5 _).mono ?_
  rintro x w1 ⟨F1, rfl, hu, hl⟩
  obtain ⟨g1, caps1, rfl, -⟩ := id hl
  have u1 := Lib.hid hu
  have U1 := Lib.hid (U0.out.trans hu)
  have L1 := Lib.hid hl
  clear hu hl
  go_wp2_with fail
  refine (CO.out _ 0 4 _).mono ?_
  rintro x w2 ⟨F2, rfl, hu, hl⟩
  obtain ⟨g2, caps2, rfl, -⟩ := id hl
  have u2 := Lib.hid hu
  have U2 := Lib.hid (U1.out.trans hu)
  have L2 := Lib.hid hl
  clear hu hl
  go_wp2_with fail
  refine (CN1.out _ _).mono ?_
  rintro x w3 ⟨F3, rfl, hu, hl⟩
  obtain ⟨g3, caps3, rfl, -⟩ := id hl
  have u3 := Lib.hid hu
  have U3 := Lib.hid (U2.out.trans hu)
  have L3 := Lib.hid hl
  clear hu hl
  go_wp2_with fail
  refine (seen_any w.heap.size (w.heap.size + 1) w3 (by have := u1.out.size; have := u2.out.size; have := u3.out.size; have := HZ.out; omega)).mono ?_
  rintro x w4 ⟨F4, rfl, hu, hl⟩
  obtain ⟨g4, caps4, rfl, -⟩ := id hl
  have u4 := Lib.hid hu
  have U4 := Lib.hid (U3.out.trans hu)
  have L4 := Lib.hid hl
  clear hu hl
  go_wp2_with fail
  refine (CN2.out _ _).mono ?_
  rintro x w5 ⟨F5, rfl, hu, hl⟩
  obtain ⟨g5, caps5, rfl, -⟩ := id hl
  have u5 := Lib.hid hu
  have U5 := Lib.hid (U4.out.trans hu)
  have L5 := Lib.hid hl
  clear hu hl
  go_wp2_with fail
  refine (CS.out _ _).mono ?_
  rintro x w6 ⟨F6, rfl, hu, hl⟩
  obtain ⟨g6, caps6, rfl, -⟩ := id hl
  have u6 := Lib.hid hu
  have U6 := Lib.hid (U5.out.trans hu)
  have L6 := Lib.hid hl
  clear hu hl
  go_wp2_with fail
  refine (written_any w.heap.size (w.heap.size + 1) w6 (by have := u1.out.size; have := u2.out.size; have := u3.out.size; have := u4.out.size; have := u5.out.size; have := u6.out.size; have := HZ.out; omega)).mono ?_
  rintro x w7 ⟨F7, rfl, hu, hl⟩
  obtain ⟨g7, caps7, rfl, -⟩ := id hl
  have u7 := Lib.hid hu
  have U7 := Lib.hid (U6.out.trans hu)
  have L7 := Lib.hid hl
  clear hu hl
  have z1 := u1.out.size; have z2 := u2.out.size; have z3 := u3.out.size; have z4 := u4.out.size; have z5 := u5.out.size; have z6 := u6.out.size; have z7 := u7.out.size; have z0 := HZ.out
  have CR := Lib.hid (all_row (lo := w.heap.size + 1) L1.out L2.out L3.out L4.out L5.out L6.out L7.out u2.out u3.out u4.out u5.out u6.out u7.out (Nat.lt_succ_self _) (by omega) (by omega) (by omega) (by omega) (by omega) (by omega) 141)
  clear L1 L2 L3 L4 L5 L6 L7 U1 U2 U3 U4 U5 U6 z1 z2 z3 z4 z5 z6 z7 z0 CO CN1 CN2 CS
  have BW := Lib.hid (HB.out.up (u1.out.trans (u2.out.trans (u3.out.trans (u4.out.trans (u5.out.trans (u6.out.trans u7.out)))))))
  clear u1 u2 u3 u4 u5 u6 u7 HB U0
  go_wp2_with fail
  refine CR.out.mono ?_
  rintro x w8 ⟨F8, rfl, hu8, g8, caps8, rfl, eg8, hc8⟩
  have ua := up_blk (cs := #[.func (.func g1) #[] caps1, .func (.func g2) #[] caps2, .func (.func g3) #[] caps3, .func (.func g4) #[] caps4, .func (.func g5) #[] caps5, .func (.func g6) #[] caps6, .func (.func g7) #[] caps7]) (t := 141) (Lex.Up.refl w7)
  have U8 := Lib.hid ((U7.out.trans ua).trans hu8)
  have B8 := Lib.hid ((BW.out.up ua).up hu8)
  have C8 := Lib.hid (hc8 w8 Ev.zero A n cap xs (Keep.refl _ _ _) B8.out (HT.out.by_ (up_by U8.out _)) trivial)
  clear hu8 hc8 CR ua U7 BW HT HS
  go_wp2_with fail
  refine C8.out.mono ?_
  rintro x w9 ⟨rfl, hb9, hg9⟩
  have U9 := Lib.hid (show Below w.heap.size w w9 from Below.grown U8.out hg9 U8.out.size (fun k hk => by simp at hk; omega))
  have hR := HR.out
  clear C8 B8 U8 eg8 HR hg9
  generalize Fl.row Fl.all Ev.zero xs = T at *
  obtain ⟨e1, k, z⟩ := T
  have B9 := Lib.hid hb9
  obtain ⟨k0, k1, k2, k3, k4, k5, k6, k7, k8, k9, k10, k11⟩ := Blk.all w9 hb9
  have f := hb9.frozen
  clear hb9
  by_cases hz : z = 0
  · rw [if_pos hz] at hR
    subst hz
    have HR := Lib.hid hR; clear hR
    have f0 := f 0; have f1 := f 1; have f2 := f 2; have f3 := f 3; have f4 := f 4; have f5 := f 5; have f6 := f 6; have f7 := f 7; have f8 := f 8; have f9 := f 9; have f10 := f 10; have f11 := f 11
    clear f
    go_wp2
    change bodyPost _ _ _ _ _ (put12 w9 w.heap.size e1)
    have K := put12_blk B9.out e1
    have BB := put12_below U9.out (Nat.le_refl _) e1
    generalize put12 w9 w.heap.size e1 = W3 at *
    obtain ⟨k0', k1', k2', k3', k4', k5', k6', k7', k8', k9', k10', k11'⟩ := Blk.all W3 K
    refine bodyPost_ret (v := .tuple #[Ev.val e1, .int .i64 ((k : Nat) : Int), .int .i64 ((0 : Nat) : Int)]) (by simp [results, Try.results102, go_sem, Ev.val, k0', k1', k2', k3', k4', k5', k6', k7', k8', k9', k10', k11']) rfl ⟨?_, BB⟩
    rw [HR.out]
  · rw [if_neg hz] at hR
    have z0 : ((z : Int) == 0) = false := by simp; omega
    have z1 : ((z : Int) != 0) = true := by simp [bne, z0]
    have HR := Lib.hid hR; clear hR hz
    have f0 := f 0; have f1 := f 1; have f2 := f 2; have f3 := f 3; have f4 := f 4; have f5 := f 5; have f6 := f 6; have f7 := f 7; have f8 := f 8; have f9 := f 9; have f10 := f 10; have f11 := f 11
    clear f
    go_wp2
    change bodyPost _ _ _ _ _ (put12 w9 w.heap.size Ev.zero)
    have K := put12_blk B9.out Ev.zero
    have BB := put12_below U9.out (Nat.le_refl _) Ev.zero
    generalize put12 w9 w.heap.size Ev.zero = W3 at *
    obtain ⟨k0', k1', k2', k3', k4', k5', k6', k7', k8', k9', k10', k11'⟩ := Blk.all W3 K
    refine bodyPost_ret (v := .tuple #[Ev.val Ev.zero, .int .i64 ((0 : Nat) : Int), .int .i64 ((z : Nat) : Int)]) (by simp [results, Try.results102, go_sem, Ev.val, k0', k1', k2', k3', k4', k5', k6', k7', k8', k9', k10', k11']) rfl ⟨?_, BB⟩
    rw [HR.out]
end Go.Proofs.Ythgfbnkggdlokaa
