/-
  The walk of TextMade.
-/
import Derived.Test.YtalabjbnbinphaaLaws5A
import Derived.Test.YtalabjbnbinphaaFit
import Derived.Deep.DeepCutAuto
namespace Go.Proofs.Ytalabjbnbinphaa
open Go.RowKit
namespace Tx
def may (B : Bool) (l : Int) (s : ByteArray) : Bool := (decide (l = 0) && decide (s.size = 0) && B) || (!B && (decide (l = 0) || decide (l = 1)) && decide (1 ≤ s.size) && decide (s.size ≤ 12))
theorem made_ok {y : Ed} (hy : Fits y) (l : Int) (s : ByteArray) : edit y = 0 ∧ may (decide (y.k = 1 ∨ y.k = 2)) l s = decide (edit ⟨y.k, y.key, l, s⟩ = 0) := by
  obtain ⟨k1, k5, kk, hb, hn⟩ := hy
  have hk : ¬ (y.k < 1 ∨ 5 < y.k) := by omega
  have z0 : (ByteArray.mk #[]).size = 0 := by decide
  by_cases h12 : y.k = 1 ∨ y.k = 2
  · obtain ⟨l0, v0⟩ := hb h12
    refine ⟨by simp [edit, hk, kk, h12, bareOf, l0, v0, z0], ?_⟩
    rw [Bool.eq_iff_iff, decide_eq_true h12]
    simp only [edit, hk, kk, h12, bareOf, may]
    by_cases e1 : l = 0 <;> by_cases e2 : s.size = 0 <;> simp [e1, e2]
  · obtain ⟨l0, v0⟩ := hn h12
    have hl : label y.l = 0 := by unfold label; rw [if_pos l0]
    have hv : value y.v = 0 := by unfold value; rw [if_pos v0]
    refine ⟨by simp [edit, hk, kk, h12, fullOf, hl, hv], ?_⟩
    rw [Bool.eq_iff_iff, decide_eq_false h12]
    simp only [edit, hk, kk, h12, fullOf, may, label, value]
    by_cases e1 : l = 0 ∨ l = 1 <;> by_cases e2 : 1 ≤ s.size ∧ s.size ≤ 12 <;> simp [e1, e2] <;> omega
end Tx

set_option maxRecDepth 100000 in
set_option maxHeartbeats 1600000 in
theorem law_made (x : Ed) (l : Int) (s : ByteArray) (w : World) (h1 : x.key.size ≤ 140737488351232) (h3 : x.v.size ≤ 140737488351232) :
    Calls Try.prog 7 #[x.val, .int .i64 l, .string s] w fun e w' => e = .returned (.bool true) ∧ Below w.heap.size w w' := by
  have C0 := Lib.hid (fun w => shown_any w)
  have CF := Lib.hid (fun w => fit_any x w h1 h3)
  have CE := Lib.hid (fun y w => edit_any y w)
  have KA := Lib.hid (Blk.new w x.cells 23)
  have U0 := Lib.hid (show Lex.Up w (w.alloc (.cells x.cells 23)) from (Below.refl w.heap.size w).alloc (Nat.le_refl _) _)
  unfold Ed.val at *
  clear h1 h3
  go_enter Try.func7, Try.ntmps7
  go_wp2_with fail
  refine (C0.out _).mono ?_
  rintro e w1 ⟨rfl, hb1⟩
  have KA1 := Lib.hid (KA.out.up hb1); have U1 := Lib.hid (U0.out.trans hb1)
  have hw1 : w.heap.size < w1.heap.size := KA1.out.lt
  clear KA U0 hb1
  obtain ⟨a0, a1, a2, a3⟩ := KA1.out.ed
  go_wp2_with fail
  refine (CF.out _).mono ?_
  rintro e w2 ⟨y, hy, rfl, hb2⟩
  have M := Lib.hid (Tx.made_ok hy l s)
  have S2 : w.heap.size < w2.heap.size := Nat.lt_of_lt_of_le hw1 hb2.size
  have U2 := Lib.hid (U1.out.trans hb2)
  clear a0 a1 a2 a3 KA1 U1 hb2 hy hw1
  obtain ⟨k, key, yl, yv⟩ := y
  go_upto_region 6 with (fail)
  refine wp_named (fun W hW => ?_)
  have K8 := Lib.hid (show Blk W w2.heap.size (Ed.cells ⟨k, key, yl, yv⟩) 23 by rw [hW]; exact (Blk.new w2 (Ed.cells ⟨k, key, yl, yv⟩) 23).alloc _)
  have K9 := Lib.hid (show Blk W (w2.heap.size + 1) (Ed.cells ⟨k, key, l, s⟩) 23 by rw [hW]; have := Blk.new (w2.alloc (.cells (Ed.cells ⟨k, key, yl, yv⟩) 23)) (Ed.cells ⟨k, key, l, s⟩) 23; simp only [World.size_alloc] at this; exact this)
  have BW := Lib.hid (show Below w.heap.size w W by rw [hW]; exact (U2.out.alloc (Nat.le_of_lt S2) _).alloc (by simp; omega) _)
  clear hW
  obtain ⟨f0, f1, f2, f3⟩ := K8.out.ed
  go_cut [10] (fun v wx => v = .bool (decide (k = 1 ∨ k = 2)) ∧ wx = W)
  case first =>
    by_cases e1 : k = 1
    · subst e1
      go_wp2_with fail
      go_meet
      exact ⟨rfl, rfl⟩
    · have d1 : (k == 1) = false := by simpa using e1
      by_cases e2 : k = 2
      · subst e2
        go_wp2_with fail
        go_meet
        exact ⟨rfl, rfl⟩
      · have d2 : (k == 2) = false := by simpa using e2
        go_wp2_with fail
        go_meet
        exact ⟨by simp [e1, e2], rfl⟩
  case rest =>
  obtain ⟨rfl, rfl⟩ := hcut
  have M1 : Hid (Tx.edit ⟨k, key, yl, yv⟩ = 0) := Lib.hid M.out.1
  have M2 : Hid (Tx.may (decide (k = 1 ∨ k = 2)) l s = decide (Tx.edit ⟨k, key, l, s⟩ = 0)) := Lib.hid M.out.2
  clear M f0 f1 f2 f3
  generalize decide (k = 1 ∨ k = 2) = B at *
  go_upto_region 7 with (fail)
  go_cut [11] (fun v wx => v = .bool (Tx.may B l s) ∧ wx = wc)
  case first =>
    have he := Tx.empty_iff s
    cases B
    · by_cases e1 : l = 0
      · subst e1
        by_cases s1 : 1 ≤ s.size
        · have h0 : s.toList.isEmpty = false := by rw [he]; exact decide_eq_false (by omega)
          clear he
          by_cases s2 : s.size ≤ 12
          · go_wp2_with fail
            go_meet
            exact ⟨by simp [Tx.may, s1, s2] <;> omega, rfl⟩
          · go_wp2_with fail
            go_meet
            exact ⟨by simp [Tx.may, s1, s2] <;> omega, rfl⟩
        · have h0 : s.toList.isEmpty = true := by rw [he]; exact decide_eq_true (by omega)
          clear he
          go_wp2_with fail
          go_meet
          exact ⟨by simp [Tx.may, s1], rfl⟩
      · have d1 : (l == 0) = false := by simpa using e1
        clear he
        by_cases e2 : l = 1
        · subst e2
          by_cases s1 : 1 ≤ s.size
          · by_cases s2 : s.size ≤ 12
            · go_wp2_with fail
              go_meet
              exact ⟨by simp [Tx.may, s1, s2] <;> omega, rfl⟩
            · go_wp2_with fail
              go_meet
              exact ⟨by simp [Tx.may, s1, s2] <;> omega, rfl⟩
          · go_wp2_with fail
            go_meet
            exact ⟨by simp [Tx.may, s1], rfl⟩
        · have d2 : (l == 1) = false := by simpa using e2
          go_wp2_with fail
          go_meet
          exact ⟨by simp [Tx.may, e1, e2], rfl⟩
    · by_cases e1 : l = 0
      · subst e1
        by_cases s1 : s.size = 0
        · have h0 : s.toList.isEmpty = true := by rw [he]; exact decide_eq_true s1
          have s2 : decide (s.size = 0) = true := decide_eq_true s1
          have S2 := Lib.hid s2
          clear s1 he s2
          go_wp2_with fail
          go_meet
          exact ⟨by rw [Tx.may, S2.out]; simp, rfl⟩
        · have h0 : s.toList.isEmpty = false := by rw [he]; exact decide_eq_false s1
          have s2 : decide (s.size = 0) = false := decide_eq_false s1
          have S2 := Lib.hid s2
          clear s1 he s2
          go_wp2_with fail
          go_meet
          exact ⟨by rw [Tx.may, S2.out]; simp, rfl⟩
      · have d1 : (l == 0) = false := by simpa using e1
        clear he
        go_wp2_with fail
        go_meet
        exact ⟨by simp [Tx.may, e1], rfl⟩
  case rest =>
  obtain ⟨rfl, rfl⟩ := hcut
  rw [M2.out]
  have O2 := Lib.hid (fun w => CE.out ⟨k, key, l, s⟩ w)
  have E2 := Lib.hid (show (decide (Tx.edit ⟨k, key, l, s⟩ = 0) = true ∧ Tx.edit ⟨k, key, l, s⟩ = 0) ∨ (decide (Tx.edit ⟨k, key, l, s⟩ = 0) = false ∧ ¬ Tx.edit ⟨k, key, l, s⟩ = 0) by
    by_cases h : Tx.edit ⟨k, key, l, s⟩ = 0
    · exact .inl ⟨decide_eq_true h, h⟩
    · exact .inr ⟨decide_eq_false h, h⟩)
  clear M2
  generalize Tx.edit ⟨k, key, l, s⟩ = r at *
  generalize decide (r = 0) = m at *
  obtain ⟨f0, f1, f2, f3⟩ := K8.out.ed
  go_wp2_with fail
  refine (CE.out ⟨k, key, yl, yv⟩ _).mono ?_
  rintro e w3 ⟨rfl, hb3⟩
  rw [M1.out]
  have K9' := Lib.hid (K9.out.up hb3); have B3 := Lib.hid (BW.out.trans (hb3.mono BW.out.size))
  clear f0 f1 f2 f3 K8 K9 BW hb3
  obtain ⟨f0, f1, f2, f3⟩ := K9'.out.ed
  go_wp2_with fail
  refine (O2.out _).mono ?_
  rintro e w4 ⟨rfl, hb4⟩
  have B4 := Lib.hid (B3.out.trans (hb4.mono B3.out.size))
  clear f0 f1 f2 f3 K9' B3 hb4
  rcases E2.out with ⟨rfl, rfl⟩ | ⟨rfl, hr⟩
  · go_wp2
    go_ret
    exact ⟨rfl, B4.out⟩
  · have hr' : (r == 0) = false := by simpa using hr
    go_wp2
    go_ret
    exact ⟨rfl, B4.out⟩
end Go.Proofs.Ytalabjbnbinphaa
