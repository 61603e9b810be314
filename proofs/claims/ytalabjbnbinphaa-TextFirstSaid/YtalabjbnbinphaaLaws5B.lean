/-
  The walk of TextFirst.
-/
import Derived.Test.YtalabjbnbinphaaLaws5A
import Derived.Test.YtalabjbnbinphaaFit
import Derived.Deep.DeepCutAuto
namespace Go.Proofs.Ytalabjbnbinphaa
open Go.RowKit
namespace Tx
def t13 : ByteArray := ⟨#[116, 104, 105, 114, 116, 101, 101, 110, 32, 98, 121, 116, 101]⟩
def a1 : ByteArray := ⟨#[97, 49]⟩
def s8 (c : Bool) (y : Ed × Int) : Ed × Int := if c then (⟨y.1.k, y.1.key, y.1.l, t13⟩, 12) else y
def s4 (c : Bool) (y : Ed × Int) : Ed × Int := if c then (⟨y.1.k, y.1.key, 2, y.1.v⟩, 11) else y
def s2 (c : Bool) (y : Ed × Int) : Ed × Int := if c then (⟨y.1.k, a1, y.1.l, y.1.v⟩, 10) else y
def s1 (f : Int) (c : Bool) (y : Ed × Int) : Ed × Int := if c then (⟨f, y.1.key, y.1.l, y.1.v⟩, 1) else y
/-- Which one of several things is told. -/
theorem first_ok {x : Ed} (hx : Fits x) {f : Int} (hf : f = 0 ∨ f = 6) (c1 c2 c4 c8 : Bool) :
    edit (s1 f c1 (s2 c2 (s4 c4 (s8 c8 (x, 0))))).1 = (s1 f c1 (s2 c2 (s4 c4 (s8 c8 (x, 0))))).2 := by
  have ka : key a1 = 10 := by decide
  have vt : value t13 = 12 := by decide
  have zt : t13.size = 13 := by decide
  obtain ⟨k1, k5, kk, hb, hn⟩ := hx
  cases c1
  · have hk : ¬ (x.k < 1 ∨ 5 < x.k) := by omega
    cases c2
    · by_cases h12 : x.k = 1 ∨ x.k = 2
      · obtain ⟨l0, v0⟩ := hb h12
        have z0 : (ByteArray.mk #[]).size = 0 := by decide
        cases c4 <;> cases c8 <;> simp [s1, s2, s4, s8, edit, hk, kk, h12, bareOf, l0, v0, zt, z0]
      · obtain ⟨l0, v0⟩ := hn h12
        have hl : label x.l = 0 := by unfold label; rw [if_pos l0]
        have hl2 : label 2 = 11 := by decide
        have hv : value x.v = 0 := by unfold value; rw [if_pos v0]
        cases c4 <;> cases c8 <;> simp [s1, s2, s4, s8, edit, hk, kk, h12, fullOf, hl, hl2, hv, vt]
    · cases c4 <;> cases c8 <;> simp [s1, s2, s4, s8, edit, hk, ka]
  · have hk : f < 1 ∨ 5 < f := by omega
    simp [s1, edit, hk]
end Tx

theorem first_kind {b : Nat} (hb : b < 256) : ∃ f : Int, wrap64 (6 * wrap64 (bits .and .u8 ((b : Int) / 16) 1)) = f ∧ (f = 0 ∨ f = 6) := by
  have h : ∀ m : Fin 16, wrap64 (6 * wrap64 (bits .and .u8 (m : Int) 1)) = 0 ∨ wrap64 (6 * wrap64 (bits .and .u8 (m : Int) 1)) = 6 := by decide +kernel
  have h2 := h ⟨b / 16, by omega⟩
  exact ⟨_, rfl, by simpa using h2⟩

def FirstAt (w : World) (b : Nat) (y : Ed × Int) (v : Value) (W : World) : Prop := v = .int .i64 y.2 ∧ Blk W b y.1.cells 23 ∧ w.heap.size < b ∧ Below w.heap.size w W

set_option maxRecDepth 100000 in
set_option maxHeartbeats 1600000 in
theorem law_first (x : Ed) (b : Nat) (w : World) (hb : b < 256) (h1 : x.key.size ≤ 140737488351232) (h3 : x.v.size ≤ 140737488351232) :
    Calls Try.prog 6 #[x.val, .int .u8 b] w fun e w' => e = .returned (.bool true) ∧ Below w.heap.size w w' := by
  have C0 := Lib.hid (fun w => shown_any w)
  have CF := Lib.hid (fun w => fit_any x w h1 h3)
  have CE := Lib.hid (fun y w => edit_any y w)
  have KA := Lib.hid (Blk.new w x.cells 23)
  have U0 := Lib.hid (show Lex.Up w (w.alloc (.cells x.cells 23)) from (Below.refl w.heap.size w).alloc (Nat.le_refl _) _)
  unfold Ed.val at *
  clear h1 h3
  go_enter Try.func6, Try.ntmps6
  go_wp2_with fail
  refine (C0.out _).mono ?_
  rintro e w1 ⟨rfl, hb1⟩
  have KA1 := Lib.hid (KA.out.up hb1); have U1 := Lib.hid (U0.out.trans hb1)
  have hw1 : w.heap.size < w1.heap.size := KA1.out.lt
  clear KA U0 hb1
  obtain ⟨a0, a1, a2, a3⟩ := KA1.out.ed
  go_wp2_with fail
  refine (CF.out _).mono ?_
  rintro e w2 ⟨y, hy, rfl, hb2⟩
  have HY := Lib.hid hy
  have S2 : w.heap.size < w2.heap.size := Nat.lt_of_lt_of_le hw1 hb2.size
  have U2 := Lib.hid (U1.out.trans hb2)
  clear a0 a1 a2 a3 KA1 U1 hb2 hy hw1
  obtain ⟨c8, h8⟩ : ∃ c, (bits .and .u8 (b : Int) 8 != 0) = c := ⟨_, rfl⟩
  obtain ⟨c4, h4⟩ : ∃ c, (bits .and .u8 (b : Int) 4 != 0) = c := ⟨_, rfl⟩
  obtain ⟨c2, h2⟩ : ∃ c, (bits .and .u8 (b : Int) 2 != 0) = c := ⟨_, rfl⟩
  obtain ⟨c1, h1⟩ : ∃ c, (bits .and .u8 (b : Int) 1 != 0) = c := ⟨_, rfl⟩
  go_upto_if 13 with (fail)
  refine wp_named (fun W hW => ?_)
  have K := Lib.hid (show Blk W w2.heap.size y.cells 23 by rw [hW]; exact Blk.new w2 y.cells 23)
  have B := Lib.hid (show Below w.heap.size w W by rw [hW]; exact U2.out.alloc (Nat.le_of_lt S2) (.cells y.cells 23))
  clear hW
  try go_upto_if 13 with (fail)
  go_cut [7] (fun v wx => FirstAt w w2.heap.size (Tx.s8 c8 (y, 0)) v wx)
  case first =>
    obtain ⟨f0, f1, f2, f3⟩ := K.out.ed
    have g := K.out.frozen 3
    cases c8
    · go_wp2_with fail
      go_meet
      exact ⟨rfl, K.out, S2, B.out⟩
    · go_wp2_with fail
      go_meet
      exact ⟨rfl, K.out.set 3 (.string Tx.t13), S2, B.out.setCell (p := ⟨w2.heap.size, 3, none⟩) (Nat.le_of_lt S2) (.string Tx.t13)⟩
  case rest =>
  obtain ⟨rfl, k, _, b'⟩ := hcut
  clear K B
  have K := Lib.hid k; have B := Lib.hid b'; clear k b'
  obtain ⟨z1, hz⟩ : ∃ z, Tx.s8 c8 (y, 0) = z := ⟨_, rfl⟩
  rw [hz] at K ⊢
  have Hz1 := Lib.hid hz; clear hz
  try go_upto_if 17 with (fail)
  go_cut [7] (fun v wx => FirstAt w w2.heap.size (Tx.s4 c4 z1) v wx)
  case first =>
    obtain ⟨f0, f1, f2, f3⟩ := K.out.ed
    have g := K.out.frozen 2
    cases c4
    · go_wp2_with fail
      go_meet
      exact ⟨rfl, K.out, S2, B.out⟩
    · go_wp2_with fail
      go_meet
      exact ⟨rfl, K.out.set 2 (.int .i64 2), S2, B.out.setCell (p := ⟨w2.heap.size, 2, none⟩) (Nat.le_of_lt S2) (.int .i64 2)⟩
  case rest =>
  obtain ⟨rfl, k, _, b'⟩ := hcut
  clear K B
  have K := Lib.hid k; have B := Lib.hid b'; clear k b'
  obtain ⟨z2, hz⟩ : ∃ z, Tx.s4 c4 z1 = z := ⟨_, rfl⟩
  rw [hz] at K ⊢
  have Hz2 := Lib.hid hz; clear hz
  try go_upto_if 21 with (fail)
  go_cut [7] (fun v wx => FirstAt w w2.heap.size (Tx.s2 c2 z2) v wx)
  case first =>
    obtain ⟨f0, f1, f2, f3⟩ := K.out.ed
    have g := K.out.frozen 1
    cases c2
    · go_wp2_with fail
      go_meet
      exact ⟨rfl, K.out, S2, B.out⟩
    · go_wp2_with fail
      go_meet
      exact ⟨rfl, K.out.set 1 (.string Tx.a1), S2, B.out.setCell (p := ⟨w2.heap.size, 1, none⟩) (Nat.le_of_lt S2) (.string Tx.a1)⟩
  case rest =>
  obtain ⟨rfl, k, _, b'⟩ := hcut
  clear K B
  have K := Lib.hid k; have B := Lib.hid b'; clear k b'
  obtain ⟨z3, hz⟩ : ∃ z, Tx.s2 c2 z2 = z := ⟨_, rfl⟩
  rw [hz] at K ⊢
  have Hz3 := Lib.hid hz; clear hz
  obtain ⟨f, hf, hf06⟩ := first_kind hb
  have FO := Lib.hid (show Tx.edit (Tx.s1 f c1 z3).1 = (Tx.s1 f c1 z3).2 by have := Tx.first_ok HY.out hf06 c1 c2 c4 c8; rw [Hz1.out, Hz2.out, Hz3.out] at this; exact this)
  have HF := Lib.hid hf; clear hf hf06
  go_upto_if 25 with (fail)
  obtain ⟨f0, f1, f2, f3⟩ := K.out.ed
  have g := K.out.frozen 0
  cases c1
  · go_wp2_with fail
    refine (CE.out z3.1 _).mono ?_
    rintro e w4 ⟨rfl, hb4⟩
    rw [show Tx.edit z3.1 = z3.2 from FO.out]
    have B4 := Lib.hid (B.out.trans (hb4.mono B.out.size))
    go_wp2
    go_ret
    exact ⟨rfl, B4.out⟩
  · go_wp2_with fail
    rw [HF.out]
    have B' := B.out.setCell (p := ⟨w2.heap.size, 0, none⟩) (Nat.le_of_lt S2) (.int .i64 f)
    refine (CE.out ⟨f, z3.1.key, z3.1.l, z3.1.v⟩ _).mono ?_
    rintro e w4 ⟨rfl, hb4⟩
    rw [show Tx.edit ⟨f, z3.1.key, z3.1.l, z3.1.v⟩ = 1 from FO.out]
    have B4 := Lib.hid (B'.trans (hb4.mono B'.size))
    go_wp2
    go_ret
    exact ⟨rfl, B4.out⟩
end Go.Proofs.Ytalabjbnbinphaa
