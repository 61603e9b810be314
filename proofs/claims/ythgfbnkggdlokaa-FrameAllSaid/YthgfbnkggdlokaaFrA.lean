/-
  Frames, plain; the walks of what tells whether one may be, of frame.parts, of frame.may.
-/
import Derived.Test.YthgfbnkggdlokaaEvQ
import Derived.Test.YthgfbnkggdlokaaEvE
import Derived.Test.YthgfbnkggdlokaaEvSl
import Derived.Carry
import Derived.ChangeMaps4
import Derived.Deep.RegionLaw
import Derived.Deep.DeepCutAuto

/-! A frame, plain: its value, its cells, which may be; a row of events in memory. -/
namespace Go.Proofs.Ythgfbnkggdlokaa
open Go.RowKit
set_option maxRecDepth 100000

structure Fr where
  k : Int
  r : Int
  u : Int
  c : Ck
  es : List Ev
namespace Fr
def zero : Fr := ⟨0, 0, 0, Ck.zero, []⟩
/-- Its value, and its cells: the events lie in a slice s. -/
def val (f : Fr) (s : Value) : Value := .agg #[.int .i64 f.k, .int .i64 f.r, .int .i64 f.u, .int .i64 f.c.c0, .int .i64 f.c.c1, .int .i64 f.c.c2, .int .i64 f.c.c3, .int .i64 f.c.c4, s]
def cells (f : Fr) (s : Value) : Array Value := #[.int .i64 f.k, .int .i64 f.r, .int .i64 f.u, .int .i64 f.c.c0, .int .i64 f.c.c1, .int .i64 f.c.c2, .int .i64 f.c.c3, .int .i64 f.c.c4, s]
def cnt (n : Int) : Bool := decide (0 ≤ n ∧ n ≤ 1048576)
def noc (c : Ck) : Bool := decide (c = Ck.zero)
def mayU (f : Fr) : Bool := cnt f.u && noc f.c && decide (f.es.length = 0)
def mayC (f : Fr) : Bool := Ev.seen f.c && decide (f.u = 0) && decide (f.es.length = 0)
def mayE (f : Fr) : Bool := decide (f.u = 0) && noc f.c && decide (f.es.length ≤ 20) && f.es.all fun e => decide (Ev.may e = 0)
def mayP (f : Fr) : Bool := (f.es.all fun e => decide (e.r = f.r)) && decide (0 < f.es.length) && mayE f
def mayK (f : Fr) : Bool := if f.k = 1 then mayP f else if f.k = 2 then mayU f else if f.k = 3 then mayC f else if f.k = 4 then mayE f else if f.k = 5 then mayC f else false
def may (f : Fr) : Bool := decide (0 ≤ f.r ∧ f.r < 5) && mayK f
end Fr
namespace Blk
variable {w : World} {b : Nat} {f : Fr} {s : Value} {t : TypeId}
theorem fr (h : Blk w b (f.cells s) t) : w.cell? ⟨b, 0, none⟩ = some (.int .i64 f.k) ∧ w.cell? ⟨b, 1, none⟩ = some (.int .i64 f.r) ∧ w.cell? ⟨b, 2, none⟩ = some (.int .i64 f.u) ∧
    w.cell? ⟨b, 3, none⟩ = some (.int .i64 f.c.c0) ∧ w.cell? ⟨b, 4, none⟩ = some (.int .i64 f.c.c1) ∧ w.cell? ⟨b, 5, none⟩ = some (.int .i64 f.c.c2) ∧ w.cell? ⟨b, 6, none⟩ = some (.int .i64 f.c.c3) ∧
    w.cell? ⟨b, 7, none⟩ = some (.int .i64 f.c.c4) ∧ w.cell? ⟨b, 8, none⟩ = some s := ⟨h.cell rfl, h.cell rfl, h.cell rfl, h.cell rfl, h.cell rfl, h.cell rfl, h.cell rfl, h.cell rfl, h.cell rfl⟩
theorem frClk (h : Blk w b (f.cells s) t) {j : Nat} (hj : j < 5) : w.cell? ⟨b, 3 + j, none⟩ = some (.int .i64 (f.c.get j)) := by
  match j, hj with
  | 0, _ | 1, _ | 2, _ | 3, _ | 4, _ => exact h.cell rfl
end Blk

theorem isCount_any (n : Int) (w : World) : Calls Try.prog 99 #[.int .i64 n] w fun e w' => e = .returned (.bool (Fr.cnt n)) ∧ w' = w := by
  obtain ⟨b, hb⟩ : ∃ b, Fr.cnt n = b := ⟨_, rfl⟩
  rw [hb]
  unfold Fr.cnt at hb
  by_cases h0 : 0 ≤ n
  rotate_left
  · obtain rfl : b = false := by rw [← hb]; simp; omega
    have d : decide (0 ≤ n) = false := by simpa using h0
    clear hb
    go_enter Try.func99, Try.ntmps99
    go_wp2
    go_ret
    exact ⟨rfl, rfl⟩
  by_cases h5 : n ≤ 1048576
  rotate_left
  · obtain rfl : b = false := by rw [← hb]; simp; omega
    have d : decide (n ≤ 1048576) = false := by simpa using h5
    clear hb
    go_enter Try.func99, Try.ntmps99
    go_wp2
    go_ret
    exact ⟨rfl, rfl⟩
  obtain rfl : b = true := by rw [← hb]; simp; omega
  have d : decide (n ≤ 1048576) = true := by simpa using h5
  clear hb
  go_enter Try.func99, Try.ntmps99
  go_wp2
  go_ret
  exact ⟨rfl, rfl⟩

theorem eq_clk (a b : Ck) (w : World) : (Op.equalIn 10000 23 (.agg #[.int .i64 a.c0, .int .i64 a.c1, .int .i64 a.c2, .int .i64 a.c3, .int .i64 a.c4]) (.agg #[.int .i64 b.c0, .int .i64 b.c1, .int .i64 b.c2, .int .i64 b.c3, .int .i64 b.c4])).run Try.prog w = .ok (decide (a = b)) w := eq_five 9998 a b w
theorem eq_noc (a : Ck) (w : World) : (Op.equalIn 10000 23 (.agg #[.int .i64 a.c0, .int .i64 a.c1, .int .i64 a.c2, .int .i64 a.c3, .int .i64 a.c4]) (.agg #[.int .i64 0, .int .i64 0, .int .i64 0, .int .i64 0, .int .i64 0])).run Try.prog w = .ok (Fr.noc a) w := eq_clk a Ck.zero w
end Go.Proofs.Ythgfbnkggdlokaa

/-! The walks of what tells whether a frame may be, kind by kind. -/
namespace Go.Proofs.Ythgfbnkggdlokaa
open Go.RowKit
set_option maxRecDepth 100000

theorem mayUpto_any (f : Fr) (A : Option Addr) (n cap : Nat) (w : World) (h : EvSl w A n cap f.es) :
    Calls Try.prog 75 #[f.val (.slice A n cap)] w fun x w' => x = .returned (.bool (Fr.mayU f)) ∧ Below w.heap.size w w' := by
  have C := Lib.hid (fun w => isCount_any f.u w)
  have E := eq_noc f.c
  have U0 := Lib.hid (show Below w.heap.size w (w.alloc (.cells (f.cells (.slice A n cap)) 26)) from (Below.refl w.heap.size w).alloc (Nat.le_refl _) _)
  have V := Lib.hid (show Fr.mayU f = (Fr.cnt f.u && Fr.noc f.c && decide (n = 0)) by unfold Fr.mayU; rw [h.len])
  obtain ⟨d, hd⟩ : ∃ d, decide (n = 0) = d := ⟨_, rfl⟩
  rw [hd] at V
  have hd' : ((n : Int) == 0) = d := by rw [← hd, Bool.eq_iff_iff]; simp
  clear hd
  generalize Fr.mayU f = z at *
  generalize Fr.cnt f.u = b1 at *
  generalize Fr.noc f.c = b2 at *
  unfold Fr.val
  go_enter Try.func75, Try.ntmps75
  go_wp2_with fail
  refine (C.out _).mono ?_
  rintro x w1 ⟨rfl, rfl⟩
  clear C
  cases b1
  · go_wp2
    go_ret
    exact ⟨by rw [V.out]; rfl, U0.out⟩
  cases b2
  · go_wp2
    go_ret
    exact ⟨by rw [V.out]; rfl, U0.out⟩
  go_wp2
  go_ret
  exact ⟨by rw [V.out]; rfl, U0.out⟩

theorem mayClock_any (f : Fr) (A : Option Addr) (n cap : Nat) (w : World) (h : EvSl w A n cap f.es) :
    Calls Try.prog 69 #[f.val (.slice A n cap)] w fun x w' => x = .returned (.bool (Fr.mayC f)) ∧ Below w.heap.size w w' := by
  have C := Lib.hid (fun n w => isCount_any n w)
  have U0 := Lib.hid (show Below w.heap.size w (w.alloc (.cells (f.cells (.slice A n cap)) 26)) from (Below.refl w.heap.size w).alloc (Nat.le_refl _) _)
  have V := Lib.hid (show Fr.mayC f = (Ev.seen f.c && decide (f.u = 0) && decide (n = 0)) by unfold Fr.mayC; rw [h.len])
  have HBad := Lib.hid (show ∀ j, j < 5 → Fr.cnt (f.c.get j) = false → Ev.seen f.c = false from fun j hj h => by
    rw [← Bool.not_eq_true, Ev.seen_iff]
    intro hs
    have := hs j hj
    simp [Fr.cnt] at h
    omega)
  have HGood := Lib.hid (show (∀ j, j < 5 → Fr.cnt (f.c.get j) = true) → Ev.seen f.c = true from fun h => (Ev.seen_iff f.c).2 fun j hj => by have := h j hj; simpa [Fr.cnt] using this)
  have HX := Lib.hid (show ∀ j, j < 5 → ∀ w, (Instr.index 23 (.agg #[.int .i64 f.c.c0, .int .i64 f.c.c1, .int .i64 f.c.c2, .int .i64 f.c.c3, .int .i64 f.c.c4]) (.int .i64 (j : Nat))).run Try.prog w = .ok (.int .i64 (f.c.get j)) w from fun j hj w => by
    match j, hj with
    | 0, _ | 1, _ | 2, _ | 3, _ | 4, _ => go_simp; rfl)
  obtain ⟨d, hd⟩ : ∃ d, decide (n = 0) = d := ⟨_, rfl⟩
  obtain ⟨d2, hd2⟩ : ∃ d, decide (f.u = 0) = d := ⟨_, rfl⟩
  rw [hd, hd2] at V
  have hd' : ((n : Int) == 0) = d := by rw [← hd, Bool.eq_iff_iff]; simp
  have hd2' : (f.u == 0) = d2 := by rw [← hd2]; rfl
  clear hd hd2
  generalize Fr.mayC f = z at *
  generalize Ev.seen f.c = b at *
  unfold Fr.val
  go_enter Try.func69, Try.ntmps69
  go_wp2
  go_loop [7] (fun v => ∃ k : Nat, k ≤ 5 ∧ v = .int .i64 k ∧ Hid (∀ j, j < k → Fr.cnt (f.c.get j) = true)) (fun v => 5 - (intOf v).toNat)
  case atStart => exact ⟨0, by omega, rfl, Lib.hid (fun j hj => absurd hj (by omega))⟩
  case round =>
    obtain ⟨k, hk, rfl, HA⟩ := hrel
    by_cases h5 : k < 5
    · have hx := HX.out k h5
      have h5' : (k : Int) < 5 := by omega
      have HZ := Lib.hid (fun h => HBad.out k h5 h)
      have HN := Lib.hid (fun (h : Fr.cnt (f.c.get k) = true) => (show ∀ j, j < k + 1 → Fr.cnt (f.c.get j) = true from fun j hj => by
        rcases Nat.lt_succ_iff_lt_or_eq.1 hj with h1 | rfl
        · exact HA.out j h1
        · exact h))
      have C' := Lib.hid (fun w => C.out (f.c.get k) w)
      generalize hg : f.c.get k = x at hx HZ HN C'
      clear hg HX HBad HGood HA C
      generalize Fr.cnt x = q at *
      go_wp2_with fail
      refine (C'.out _).mono ?_
      rintro e w1 ⟨rfl, rfl⟩
      clear C' hx
      cases q
      · obtain rfl := HZ.out rfl
        go_wp2
        go_ret
        exact ⟨by rw [V.out]; rfl, U0.out⟩
      · go_wp2
        go_round
        case rel => exact ⟨k + 1, by omega, by go_num, Lib.hid (HN.out (by simp))⟩
        case measure => simp [intOf]; omega
    · obtain rfl : k = 5 := by omega
      obtain rfl := HGood.out HA.out
      clear HX HBad HGood HA C
      cases d2
      · go_wp2
        go_ret
        exact ⟨by rw [V.out]; rfl, U0.out⟩
      go_wp2
      go_ret
      exact ⟨by rw [V.out]; rfl, U0.out⟩
end Go.Proofs.Ythgfbnkggdlokaa

/-! The walks of what tells whether a frame with events may be. -/
namespace Go.Proofs.Ythgfbnkggdlokaa
open Go.RowKit
set_option maxRecDepth 100000

def MERel (P : Nat → Prop) (n : Nat) (W : World) (v : Value) (wr : World) : Prop :=
  ∃ k : Nat, k ≤ n ∧ v = .int .i64 k ∧ Hid (∀ j, j < k → P j) ∧ Hid (Lex.Up W wr)
theorem all_nth {es : List Ev} {p : Ev → Bool} (h : ∀ j, j < es.length → p (Ev.nth es j) = true) : es.all p = true := by
  rw [List.all_eq_true]
  intro e he
  obtain ⟨j, hj, rfl⟩ := List.getElem_of_mem he
  have := h j hj
  rwa [Ev.nth, List.getD_eq_getElem?_getD, List.getElem?_eq_getElem hj] at this
theorem not_all_nth {es : List Ev} {p : Ev → Bool} {j : Nat} (hj : j < es.length) (h : p (Ev.nth es j) = false) : es.all p = false := by
  rw [← Bool.not_eq_true, List.all_eq_true]
  intro ha
  have := ha es[j] (List.getElem_mem hj)
  rw [Ev.nth, List.getD_eq_getElem?_getD, List.getElem?_eq_getElem hj] at h
  simp only [Option.getD_some] at h
  rw [h] at this; cases this

set_option maxHeartbeats 1600000 in
theorem mayEvents_any (f : Fr) (A : Option Addr) (n cap : Nat) (w : World) (h : EvSl w A n cap f.es) :
    Calls Try.prog 78 #[f.val (.slice A n cap)] w fun x w' => x = .returned (.bool (Fr.mayE f)) ∧ Below w.heap.size w w' := by
  have C := Lib.hid (fun e w => evmay_any e w)
  unfold Ev.val at C
  have E := eq_noc f.c
  have U0 := Lib.hid (show Lex.Up w (w.alloc (.cells (f.cells (.slice A n cap)) 26)) from (Below.refl w.heap.size w).alloc (Nat.le_refl _) _)
  have V := Lib.hid (show Fr.mayE f = (decide (f.u = 0) && Fr.noc f.c && decide (n ≤ 20) && f.es.all fun e => decide (Ev.may e = 0)) by unfold Fr.mayE; rw [h.len])
  have SL := Lib.hid (fun w' (hu : Lex.Up w w') => EvSl.up h hu)
  have NL := Lib.hid h.len
  have AD := Lib.hid h.addr
  have hlim := h.lim
  clear h
  obtain ⟨d, hd⟩ : ∃ d, decide (n ≤ 20) = d := ⟨_, rfl⟩
  obtain ⟨d2, hd2⟩ : ∃ d, decide (f.u = 0) = d := ⟨_, rfl⟩
  rw [hd, hd2] at V
  have hd' : decide (20 < (n : Int)) = !d := by rw [← hd, Bool.eq_iff_iff]; simp; omega
  have hd2' : (f.u != 0) = !d2 := by rw [← hd2]; rfl
  clear hd hd2
  generalize Fr.mayE f = z at *
  generalize Fr.noc f.c = b2 at *
  unfold Fr.val
  go_enter Try.func78, Try.ntmps78
  go_upto_region 1 with (fail)
  cases d2
  · go_wp2
    go_ret
    exact ⟨by rw [V.out]; rfl, U0.out⟩
  cases b2
  · go_wp2
    go_ret
    exact ⟨by rw [V.out]; rfl, U0.out⟩
  cases d
  · go_wp2
    go_ret
    exact ⟨by rw [V.out]; rfl, U0.out⟩
  go_wp2
  clear E hd' hd2'
  go_loopw [23] (fun v wr => MERel (fun j => Ev.may (Ev.nth f.es j) = 0) n w v wr) (fun v _ => n - (intOf v).toNat)
  case atStart => exact ⟨0, by omega, rfl, Lib.hid (fun j hj => absurd hj (by omega)), U0⟩
  case round =>
    obtain ⟨k, hk, rfl, HA, UR⟩ := hrel
    clear U0
    by_cases h5 : k < n
    · have h5' : (k : Int) < n := by omega
      obtain ⟨b, off, rfl⟩ := AD.out (by omega)
      obtain ⟨e0, e1, e2, e3, e4, e5, e6, e7, e8, e9, e10, e11⟩ := ev_at (SL.out wr UR.out) h5
      have HZ := Lib.hid (show Ev.may (Ev.nth f.es k) ≠ 0 → z = false from fun h => by
        rw [V.out, not_all_nth (j := k) (by rw [NL.out]; exact h5) (by simpa using h)]; simp)
      have HN := Lib.hid (fun (h : Ev.may (Ev.nth f.es k) = 0) => (show ∀ j, j < k + 1 → Ev.may (Ev.nth f.es j) = 0 from fun j hj => by
        rcases Nat.lt_succ_iff_lt_or_eq.1 hj with h1 | rfl
        · exact HA.out j h1
        · exact h))
      generalize hg : Ev.nth f.es k = e at e0 e1 e2 e3 e4 e5 e6 e7 e8 e9 e10 e11 HZ HN
      have C' := Lib.hid (fun w => C.out e w)
      clear hg HA C V
      generalize Ev.may e = m at *
      go_wp2_with fail
      refine (C'.out _).mono ?_
      rintro x w1 ⟨rfl, hb1⟩
      have U1 := Lib.hid (UR.out.trans (((Below.refl wr.heap.size wr).alloc (Nat.le_refl _) (.cells e.cells 51)).trans (Below.mono hb1 (by simp))))
      clear C' hb1 e0 e1 e2 e3 e4 e5 e6 e7 e8 e9 e10 e11
      by_cases hm : m = 0
      · have hm' : (m != 0) = false := by simp [hm]
        go_wp2
        go_roundw
        case rel => exact ⟨k + 1, by omega, by go_num, Lib.hid (HN.out hm), U1⟩
        case measure => simp [intOf]; omega
      · have hm' : (m != 0) = true := by simpa [bne] using hm
        obtain rfl := HZ.out hm
        go_wp2
        go_ret
        exact ⟨rfl, U1.out⟩
    · obtain rfl : k = n := by omega
      have hz : z = true := by
        rw [V.out, all_nth (fun j hj => by have := HA.out j (by rw [← NL.out]; exact hj); simpa using this)]; rfl
      subst hz
      clear C V
      go_wp2
      go_ret
      exact ⟨rfl, UR.out⟩

set_option maxHeartbeats 1600000 in
theorem mayPush_any (f : Fr) (A : Option Addr) (n cap : Nat) (w : World) (h : EvSl w A n cap f.es) :
    Calls Try.prog 72 #[f.val (.slice A n cap)] w fun x w' => x = .returned (.bool (Fr.mayP f)) ∧ Below w.heap.size w w' := by
  have C := Lib.hid (fun w h => mayEvents_any f A n cap w h)
  unfold Fr.val at C
  have KA := Lib.hid (Blk.new w (f.cells (.slice A n cap)) 26)
  have U0 := Lib.hid (show Lex.Up w (w.alloc (.cells (f.cells (.slice A n cap)) 26)) from (Below.refl w.heap.size w).alloc (Nat.le_refl _) _)
  have UK := Lib.hid (show ∀ w', Lex.Up (w.alloc (.cells (f.cells (.slice A n cap)) 26)) w' → Blk w' w.heap.size (f.cells (.slice A n cap)) 26 from fun w' hu => KA.out.up hu)
  have V := Lib.hid (show Fr.mayP f = ((f.es.all fun e => decide (e.r = f.r)) && decide (0 < n) && Fr.mayE f) by unfold Fr.mayP; rw [h.len])
  have SL := Lib.hid (fun w' (hu : Lex.Up w w') => EvSl.up h hu)
  have NL := Lib.hid h.len
  have AD := Lib.hid h.addr
  have hlim := h.lim
  clear h KA
  generalize Fr.mayP f = z at *
  generalize Fr.mayE f = b2 at *
  unfold Fr.val
  go_enter Try.func72, Try.ntmps72
  go_wp2
  refine wp_named (fun W hW => ?_)
  have hW' : W = w.alloc (.cells (f.cells (.slice A n cap)) 26) := hW
  rw [← hW'] at UK U0
  clear hW hW'
  go_loopw [8] (fun v wr => MERel (fun j => (Ev.nth f.es j).r = f.r) n W v wr) (fun v _ => n - (intOf v).toNat)
  case atStart => exact ⟨0, by omega, rfl, Lib.hid (fun j hj => absurd hj (by omega)), Lib.hid (Lex.Up.refl W)⟩
  case round =>
    obtain ⟨k, hk, rfl, HA, UR⟩ := hrel
    obtain ⟨a0, a1, a2, a3, a4, a5, a6, a7, a8⟩ := (UK.out wr UR.out).fr
    have hlt := (UK.out wr UR.out).lt
    by_cases h5 : k < n
    · have h5' : (k : Int) < n := by omega
      obtain ⟨b, off, rfl⟩ := AD.out (by omega)
      obtain ⟨e0, e1, e2, e3, e4, e5, e6, e7, e8, e9, e10, e11⟩ := ev_at (SL.out wr (U0.out.trans UR.out)) h5
      have HZ := Lib.hid (show (Ev.nth f.es k).r ≠ f.r → z = false from fun h => by
        rw [V.out, not_all_nth (j := k) (by rw [NL.out]; exact h5) (by simpa using h)]; simp)
      have HN := Lib.hid (fun (h : (Ev.nth f.es k).r = f.r) => (show ∀ j, j < k + 1 → (Ev.nth f.es j).r = f.r from fun j hj => by
        rcases Nat.lt_succ_iff_lt_or_eq.1 hj with h1 | rfl
        · exact HA.out j h1
        · exact h))
      generalize hg : Ev.nth f.es k = e at e0 e1 e2 e3 e4 e5 e6 e7 e8 e9 e10 e11 HZ HN
      clear hg HA C V
      have U1 := Lib.hid (UR.out.trans ((Below.refl wr.heap.size wr).alloc (Nat.le_refl _) (.cells e.cells 51)))
      by_cases hm : e.r = f.r
      · have hm' : (e.r != f.r) = false := by simp [hm]
        have HM := Lib.hid hm
        clear hm
        go_wp2
        go_roundw
        case rel => exact ⟨k + 1, by omega, by go_num, Lib.hid (HN.out HM.out), U1⟩
        case measure => simp [intOf]; omega
      · have hm' : (e.r != f.r) = true := by simpa [bne] using hm
        obtain rfl := HZ.out hm
        go_wp2
        go_ret
        exact ⟨rfl, U0.out.trans U1.out⟩
    · obtain rfl : k = n := by omega
      have hz : z = (decide (0 < k) && b2) := by
        rw [V.out, all_nth (fun j hj => by have := HA.out j (by rw [← NL.out]; exact hj); simpa using this)]; rfl
      obtain ⟨d, hd⟩ : ∃ d, decide (0 < k) = d := ⟨_, rfl⟩
      rw [hd] at hz
      have hd' : decide (0 < (k : Int)) = d := by rw [← hd, Bool.eq_iff_iff]; simp
      subst hz
      clear V
      cases d
      · go_wp2
        go_ret
        exact ⟨rfl, U0.out.trans UR.out⟩
      · go_wp2_with fail
        refine (C.out _ (SL.out wr (U0.out.trans UR.out))).mono ?_
        rintro x w1 ⟨rfl, hb1⟩
        go_wp2
        go_ret
        exact ⟨rfl, (U0.out.trans UR.out).trans hb1⟩
end Go.Proofs.Ythgfbnkggdlokaa

/-! The walk of frame.parts; what is looked up in it. -/
namespace Go.Proofs.Ythgfbnkggdlokaa
open Go.RowKit
set_option maxRecDepth 100000

/-- Block b is this map. -/
def Mp (w : World) (b : Nat) (es : Array MapEntry) (n : Nat) : Prop := w.heap[b]? = some (.map es n)
namespace Mp
variable {w : World} {b : Nat} {es : Array MapEntry} {n : Nat}
theorem lt (h : Mp w b es n) : b < w.heap.size := by
  rcases Nat.lt_or_ge b w.heap.size with k | k
  · exact k
  · unfold Mp at h; rw [Array.getElem?_eq_none k] at h; cases h
theorem up {w' : World} (h : Mp w b es n) (hu : Lex.Up w w') : Mp w' b es n := by
  have := hu.block b h.lt
  unfold Mp at *; rw [this]; exact h
theorem new (w : World) : Mp (w.alloc (.map #[] 0)) w.heap.size #[] 0 := by unfold Mp; exact heap_alloc_new _ _
theorem alloc (h : Mp w b es n) (o : Obj) : Mp (w.alloc o) b es n := h.up ((Below.refl _ _).alloc (Nat.le_refl _) o)
end Mp
theorem run_insert_new {P : Program} {t k e : TypeId} {q : IntKind} (ht : P.underlying t = some (.map k e)) (hk : P.underlying k = some (.int q)) {w : World} {b : Nat} {es : Array MapEntry} {n : Nat} (h : Mp w b es n) (x : Int) (v : Value)
    (hx : Instr.findNow (.int q) (.int q x) es.toList 0 = some none) : (Instr.mapUpdate t (.map (some b)) (.int q x) v).run P w = .ok () (ChangeMaps.setBlock w b (.map (es.push ⟨.int q x, v, n⟩) (n + 1))) := by
  have h' : w.heap[b]? = some (.map es n) := h
  simp [Instr.mapUpdate, run_underlying ht, MapKept.run_getObj_map h', MapKept.run_checkKey (k := .int q x) hk (by simp [MapKept.IsKey]), MapKept.run_findKey hk hx, MapKept.run_setObj_map _ h', Result.andThen, ChangeMaps.setBlock]
theorem wpList_insert {P : Program} {w : World} {ops : Array Oper} {rest : List Oper} {o : Oper} {a : Act} {Q : Exit → Act → World → Prop} (hg : o.guard = none) (m x v : Operand) (t : TypeId) (hop : o.op = Op.insert t m x v)
    (k e : TypeId) (q : IntKind) (ht : P.underlying t = some (.map k e)) (hk : P.underlying k = some (.int q)) (b : Nat) (es : Array MapEntry) (n : Nat) (hm : a.eval m = .map (some b)) (h : Mp w b es n) (y : Int) (hx : a.eval x = .int q y)
    (val : Value) (hv : a.eval v = val) (hf : Instr.findNow (.int q) (.int q y) es.toList 0 = some none)
    (K : ∀ w', Mp w' b (es.push ⟨.int q y, val, n⟩) (n + 1) → w.grownBy w' (some b) → wpList P ops Q rest (a.put o.dst undef) w') : wpList P ops Q (o :: rest) a w := by
  refine wpList_plain hg fun K' hK' => ?_
  have hrun := run_insert_new ht hk h y val hf
  unfold Oper.wp
  simp only [execOp, hop, hm, hx, hv, Sem.run_bind, hrun, Result.andThen_ok]
  refine hK' _ _ (K _ ?_ ⟨rfl, rfl, rfl, by simp [ChangeMaps.setBlock], fun j _ hj => ?_⟩)
  · unfold Mp ChangeMaps.setBlock
    simp [h.lt]
  · unfold ChangeMaps.setBlock
    have : b ≠ j := fun e => hj (by rw [e])
    simp [this]
theorem run_look {P : Program} {t k e : TypeId} {q : IntKind} (ht : P.underlying t = some (.map k e)) (hk : P.underlying k = some (.int q)) {w : World} {b : Nat} {es : Array MapEntry} {n : Nat} (h : Mp w b es n) (x : Int) (ok : Bool) :
    (∀ i v, Instr.findNow (.int q) (.int q x) es.toList 0 = some (some (i, v)) → (Instr.lookup t (.map (some b)) (.int q x) ok).run P w = .ok (if ok then .tuple #[v, .bool true] else v) w) ∧
    (∀ z, Instr.findNow (.int q) (.int q x) es.toList 0 = some none → (zeroValue e).run P w = .ok z w → (Instr.lookup t (.map (some b)) (.int q x) ok).run P w = .ok (if ok then .tuple #[z, .bool false] else z) w) := by
  have h' : w.heap[b]? = some (.map es n) := h
  have hc : ∀ em, (Instr.checkKey em 10000 k (.int q x)).run P w = .ok () w := fun em => MapKept.run_checkKey (k := .int q x) hk (by simp [MapKept.IsKey]) em 9999
  constructor
  · intro i v hf
    simp [Instr.lookup, run_underlying ht, MapKept.run_getObj_map h', hc, MapKept.run_findKey hk hf, Result.andThen]
  · intro z hf hz
    simp [Instr.lookup, run_underlying ht, MapKept.run_getObj_map h', hc, MapKept.run_findKey hk hf, hz, Result.andThen]

namespace Pt
def fn (g : Nat) : Value := .func (.func g) #[] #[]
def may (k : Int) : Value := if k = 1 then fn 72 else if k = 2 then fn 75 else if k = 3 then fn 69 else if k = 4 then fn 78 else if k = 5 then fn 69 else .nilFunc
def put (k : Int) : Value := if k = 1 then fn 73 else if k = 2 then fn 76 else if k = 3 then fn 70 else if k = 4 then fn 73 else if k = 5 then fn 70 else .nilFunc
def take (k : Int) : Value := if k = 1 then fn 74 else if k = 2 then fn 77 else if k = 3 then fn 71 else if k = 4 then fn 74 else if k = 5 then fn 71 else .nilFunc
def ok (k : Int) : Bool := decide (k = 1 ∨ k = 2 ∨ k = 3 ∨ k = 4 ∨ k = 5)
def ent (k : Int) (n : Nat) : MapEntry := ⟨.int .i64 k, .agg #[may k, put k, take k], n⟩
def all : Array MapEntry := #[ent 1 0, ent 2 1, ent 3 2, ent 4 3, ent 5 4]
theorem find (k : Int) : Instr.findNow (.int .i64) (.int .i64 k) all.toList 0 = if ok k then some (some ((k - 1).toNat, .agg #[may k, put k, take k])) else some none := by
  by_cases h1 : k = 1
  · subst h1; rfl
  by_cases h2 : k = 2
  · subst h2; rfl
  by_cases h3 : k = 3
  · subst h3; rfl
  by_cases h4 : k = 4
  · subst h4; rfl
  by_cases h5 : k = 5
  · subst h5; rfl
  have ho : ok k = false := by simp [ok, h1, h2, h3, h4, h5]
  rw [ho, if_neg (by simp)]
  have b1 : (k == 1) = false := by simpa using h1
  have b2 : (k == 2) = false := by simpa using h2
  have b3 : (k == 3) = false := by simpa using h3
  have b4 : (k == 4) = false := by simpa using h4
  have b5 : (k == 5) = false := by simpa using h5
  simp [all, ent, Instr.findNow, Instr.sameNow, b1, b2, b3, b4, b5]
theorem info : (Try.prog.info? 63).map (fun i => (i.zero, i.size, i.bytes)) = some (some (.agg #[.nilFunc, .nilFunc, .nilFunc]), 3, 24) := by kernel_rfl
theorem zero (w : World) : (zeroValue 63).run Try.prog w = .ok (.agg #[.nilFunc, .nilFunc, .nilFunc]) w := by
  obtain ⟨i0, hi, hz0, hz1, hz2⟩ := info_parts info
  simp [zeroValue, typeInfo, hi, hz0]
theorem look {w : World} {b : Nat} (h : Mp w b all 5) (k : Int) (c : Bool) : (Instr.lookup 64 (.map (some b)) (.int .i64 k) c).run Try.prog w = .ok (if c then .tuple #[.agg #[may k, put k, take k], .bool (ok k)] else .agg #[may k, put k, take k]) w := by
  have hf := find k
  obtain ⟨l1, l2⟩ := run_look (P := Try.prog) Try.underlying64 Try.underlying3 h k c
  cases ho : ok k
  · rw [ho, if_neg (by simp)] at hf
    have := l2 _ hf (zero w)
    rw [this]
    simp only [ok, decide_eq_false_iff_not, not_or] at ho
    simp [may, put, take, ho]
  · rw [ho, if_pos rfl] at hf
    exact l1 _ _ hf
end Pt
@[go_sem] theorem run_store_fun {P : Program} {w : World} {a : Addr} {m : Mode} (f : Fn) (x y : Array Value) : (store a (.func f x y) m).run P w = stored P w a (.func f x y) m := run_store P w a _ m rfl
@[go_sem] theorem run_store_nilFun {P : Program} {w : World} {a : Addr} {m : Mode} : (store a .nilFunc m).run P w = stored P w a .nilFunc m := run_store P w a _ m rfl
theorem Pt.one {g1 g2 g3 g4 g5 : Nat} (k : Int) : (if k = 1 then Pt.fn g1 else if k = 2 then Pt.fn g2 else if k = 3 then Pt.fn g3 else if k = 4 then Pt.fn g4 else if k = 5 then Pt.fn g5 else Value.nilFunc).oneCell' = true := by
  repeat' split
  all_goals rfl
@[go_sem] theorem run_store_ptMay {P : Program} {w : World} {a : Addr} {m : Mode} (k : Int) : (store a (Pt.may k) m).run P w = stored P w a (Pt.may k) m := run_store P w a _ m (Pt.one k)
@[go_sem] theorem run_store_ptPut {P : Program} {w : World} {a : Addr} {m : Mode} (k : Int) : (store a (Pt.put k) m).run P w = stored P w a (Pt.put k) m := run_store P w a _ m (Pt.one k)
@[go_sem] theorem run_store_ptTake {P : Program} {w : World} {a : Addr} {m : Mode} (k : Int) : (store a (Pt.take k) m).run P w = stored P w a (Pt.take k) m := run_store P w a _ m (Pt.one k)
theorem Blk.by_ {w w' : World} {b : Nat} {cs : Array Value} {t : TypeId} {r : Option Nat} (h : Blk w b cs t) (hg : w.grownBy w' r) (hne : r ≠ some b) : Blk w' b cs t := by
  have := hg.block b h.lt (fun e => hne e.symm)
  unfold Blk at *; rw [this]; exact h
theorem parts_any (w : World) : Calls Try.prog 39 #[] w fun x w' => ∃ b, x = .returned (.map (some b)) ∧ Mp w' b Pt.all 5 ∧ Lex.Up w w' := by
  have hmm := @run_makeMap Try.prog
  have KS := Lib.hid (Blk.new w #[Pt.fn 69, Pt.fn 70, Pt.fn 71] 63)
  have U0 := Lib.hid (show Lex.Up w (w.alloc (.cells #[Pt.fn 69, Pt.fn 70, Pt.fn 71] 63)) from up_blk (Lex.Up.refl w))
  generalize hW : w.alloc (.cells #[Pt.fn 69, Pt.fn 70, Pt.fn 71] 63) = W at *
  have HW := Lib.hid hW; clear hW
  have M0 := Lib.hid (Mp.new W)
  have U1 := Lib.hid (show Lex.Up w (W.alloc (.map #[] 0)) from Below.alloc U0.out U0.out.size _)
  have K1 := Lib.hid (KS.out.alloc (.map #[] 0))
  have hs : W.heap.size = w.heap.size + 1 := by rw [← HW.out]; simp
  go_enter Try.func39, Try.ntmps39
  go_upto_region 2 with (fail)
  refine wp_named (fun W2 hW2 => ?_)
  obtain rfl : W2 = W := by rw [hW2, ← HW.out]; rfl
  clear hW2 HW KS U0
  rw [hs] at M0
  go_wp2_with (refine wpList_insert rfl _ _ _ _ rfl _ _ _ Try.underlying64 Try.underlying3 _ #[] 0 rfl M0.out _ rfl _ rfl (by rfl) ?_)
  intro w1 hM hg
  have M1 := Lib.hid hM
  have U2 := Lib.hid (show Lex.Up w w1 from Below.grown U1.out hg U1.out.size (fun k hk => by simp at hk; omega))
  have K2 := Lib.hid (Blk.by_ K1.out hg (by simp))
  clear hM hg M0 U1 K1
  go_wp2_with (refine wpList_insert rfl _ _ _ _ rfl _ _ _ Try.underlying64 Try.underlying3 _ _ 1 rfl M1.out _ rfl _ rfl (by rfl) ?_)
  intro w2 hM hg
  have M2 := Lib.hid hM
  have U3 := Lib.hid (show Lex.Up w w2 from Below.grown U2.out hg U2.out.size (fun k hk => by simp at hk; omega))
  have K3 := Lib.hid (Blk.by_ K2.out hg (by simp))
  clear hM hg M1 U2 K2
  have a0 := K3.out.cell (j := 0) rfl; have a1 := K3.out.cell (j := 1) rfl; have a2 := K3.out.cell (j := 2) rfl
  go_wp2_with (refine wpList_insert rfl _ _ _ _ rfl _ _ _ Try.underlying64 Try.underlying3 _ _ 2 rfl M2.out _ rfl _ rfl (by rfl) ?_)
  clear a0 a1 a2
  intro w3 hM hg
  have M3 := Lib.hid hM
  have U4 := Lib.hid (show Lex.Up w w3 from Below.grown U3.out hg U3.out.size (fun k hk => by simp at hk; omega))
  have K4 := Lib.hid (Blk.by_ K3.out hg (by simp))
  clear hM hg M2 U3 K3
  go_wp2_with (refine wpList_insert rfl _ _ _ _ rfl _ _ _ Try.underlying64 Try.underlying3 _ _ 3 rfl M3.out _ rfl _ rfl (by rfl) ?_)
  intro w4 hM hg
  have M4 := Lib.hid hM
  have U5 := Lib.hid (show Lex.Up w w4 from Below.grown U4.out hg U4.out.size (fun k hk => by simp at hk; omega))
  have K5 := Lib.hid (Blk.by_ K4.out hg (by simp))
  clear hM hg M3 U4 K4
  have a0 := K5.out.cell (j := 0) rfl; have a1 := K5.out.cell (j := 1) rfl; have a2 := K5.out.cell (j := 2) rfl
  go_wp2_with (refine wpList_insert rfl _ _ _ _ rfl _ _ _ Try.underlying64 Try.underlying3 _ _ 4 rfl M4.out _ rfl _ rfl (by rfl) ?_)
  clear a0 a1 a2
  intro w5 hM hg
  have M5 := Lib.hid hM
  have U6 := Lib.hid (show Lex.Up w w5 from Below.grown U5.out hg U5.out.size (fun k hk => by simp at hk; omega))
  have K6 := Lib.hid (Blk.by_ K5.out hg (by simp))
  clear hM hg M4 U5 K5
  go_wp2
  go_ret
  exact ⟨_, rfl, M5.out, U6.out⟩
end Go.Proofs.Ythgfbnkggdlokaa

/-! The walk of frame.may. -/
namespace Go.Proofs.Ythgfbnkggdlokaa
open Go.RowKit
set_option maxRecDepth 100000

theorem Fr.mayK_no (f : Fr) (h : Pt.ok f.k = false) : Fr.mayK f = false := by
  simp only [Pt.ok, decide_eq_false_iff_not, not_or] at h
  simp [Fr.mayK, h]
/-- The part of a kind lies in a new block. -/
def PartRel (k : Int) (W : World) (v3 v4 : Value) (wx : World) : Prop :=
  v4 = .bool (Pt.ok k) ∧ ∃ b, v3 = .pointer (some ⟨b, 0, none⟩) ∧ Hid (Blk wx b #[Pt.may k, Pt.put k, Pt.take k] 63) ∧ Hid (Lex.Up W wx)
theorem PartRel.new (w2 : World) {W : World} (k : Int) (hu : Lex.Up W w2) : PartRel k W (.pointer (some ⟨w2.heap.size, 0, none⟩)) (.bool (Pt.ok k)) (w2.alloc (.cells #[Pt.may k, Pt.put k, Pt.take k] 63)) :=
  ⟨rfl, _, rfl, Lib.hid (Blk.new _ _ _), Lib.hid (up_blk hu)⟩
theorem PartRel.old {w2 W : World} {b : Nat} (k : Int) (hu : Lex.Up W w2) (h : Blk w2 b #[.nilFunc, .nilFunc, .nilFunc] 63) (hb : W.heap.size ≤ b) :
    PartRel k W (.pointer (some ⟨b, 0, none⟩)) (.bool (Pt.ok k)) (((w2.setCell ⟨b, 0, none⟩ (Pt.may k)).setCell ⟨b, 1, none⟩ (Pt.put k)).setCell ⟨b, 2, none⟩ (Pt.take k)) :=
  ⟨rfl, _, rfl, Lib.hid (((h.set 0 _).set 1 _).set 2 _), Lib.hid (Below.setCell (Below.setCell (Below.setCell hu (show W.heap.size ≤ (⟨b, 0, none⟩ : Addr).block from hb) _) (show W.heap.size ≤ (⟨b, 1, none⟩ : Addr).block from hb) _) (show W.heap.size ≤ (⟨b, 2, none⟩ : Addr).block from hb) _)⟩
set_option maxHeartbeats 1600000 in
theorem frmay_any (f : Fr) (A : Option Addr) (n cap : Nat) (w : World) (h : EvSl w A n cap f.es) :
    Calls Try.prog 38 #[f.val (.slice A n cap)] w fun x w' => x = .returned (.bool (Fr.may f)) ∧ Below w.heap.size w w' := by
  have CP := Lib.hid (fun w => parts_any w)
  have KA := Lib.hid (Blk.new w (f.cells (.slice A n cap)) 26)
  have U0 := Lib.hid (show Lex.Up w (w.alloc (.cells (f.cells (.slice A n cap)) 26)) from (Below.refl w.heap.size w).alloc (Nat.le_refl _) _)
  have SL := Lib.hid (fun w' (hu : Lex.Up w w') => EvSl.up h hu)
  have V := Lib.hid (show Fr.may f = (decide (0 ≤ f.r ∧ f.r < 5) && Fr.mayK f) from rfl)
  clear h
  generalize Fr.may f = z at *
  unfold Fr.val
  go_enter Try.func38, Try.ntmps38
  go_upto_region 1 with (fail)
  refine wp_named (fun W hW => ?_)
  have hW' : W = w.alloc (.cells (f.cells (.slice A n cap)) 26) := hW
  rw [← hW'] at KA U0
  clear hW hW'
  have a0 : W.cell? ⟨w.heap.size, 0, none⟩ = some (.int .i64 f.k) := KA.out.cell rfl
  have lt0 : w.heap.size < W.heap.size := KA.out.lt
  go_cut [3, 4] (fun v3 v4 wx => PartRel f.k W v3 v4 wx)
  case first =>
    go_region_law (first
      | (refine step_callx (by rfl) (CP.out _) (by go_simp) ?_
         rintro x w2 ⟨b, rfl, hm, hu⟩
         refine ⟨_, rfl, ?_⟩
         have UB : Lex.Up W w2 := (Lex.Up.drew W).trans hu
         have UH := Lib.hid UB
         have b0 : w2.cell? ⟨w.heap.size, 0, none⟩ = some (.int .i64 f.k) := (KA.out.up UB).cell rfl
         have lt2 : w.heap.size < w2.heap.size := (KA.out.up UB).lt
         have LK := Pt.look hm f.k true
         have LK2 := Pt.look (hm.alloc (.cells #[.nilFunc, .nilFunc, .nilFunc] 63)) f.k true
         have RE := Lib.hid (fun (h : Unit) => PartRel.new w2 f.k UB)
         clear hu hm UB)
      | (refine step_callx (by rfl) (CP.out _) (by go_simp) ?_
         rintro x w2 ⟨b, rfl, hm, hu⟩
         refine ⟨_, rfl, ?_⟩
         have UB : Lex.Up W w2 := (up_blk (Lex.Up.drew W)).trans hu
         have UH := Lib.hid UB
         have b0 : w2.cell? ⟨w.heap.size, 0, none⟩ = some (.int .i64 f.k) := (KA.out.up UB).cell rfl
         have lt2 : w.heap.size < w2.heap.size := (KA.out.up UB).lt
         have LK := Pt.look hm f.k true
         have KN : Blk w2 W.heap.size #[.nilFunc, .nilFunc, .nilFunc] 63 := (Blk.new W.drew #[.nilFunc, .nilFunc, .nilFunc] 63).up hu
         have n0 := KN.cell (j := 0) rfl; have n1 := KN.cell (j := 1) rfl; have n2 := KN.cell (j := 2) rfl
         have f0 := KN.frozen 0; have f1 := KN.frozen 1; have f2 := KN.frozen 2
         have RE := Lib.hid (fun (h : Unit) => PartRel.old f.k UB KN (Nat.le_refl _))
         clear hu hm UB KN))
    all_goals (go_wp2_with fail; go_meet; exact RE.out ())
  case rest =>
  obtain ⟨rfl, b, rfl, KP, UC⟩ := hcut
  obtain ⟨a0, a1, a2, a3, a4, a5, a6, a7, a8⟩ := (KA.out.up UC.out).fr
  have UE := Lib.hid (U0.out.trans UC.out)
  have SE := Lib.hid (SL.out wc UE.out)
  have HK := Lib.hid (show Pt.ok f.k = true → f.k = 1 ∨ f.k = 2 ∨ f.k = 3 ∨ f.k = 4 ∨ f.k = 5 from fun h => by simpa [Pt.ok] using h)
  have HN := Lib.hid (fun h => Fr.mayK_no f h)
  have p0 := KP.out.cell (j := 0) rfl
  clear lt0 CP U0 SL KA
  generalize hok : Pt.ok f.k = o at *
  clear hok
  cases o
  · have VZ : z = false := by rw [V.out, HN.out rfl, Bool.and_false]
    subst VZ
    go_wp2
    go_ret
    exact ⟨rfl, UE.out⟩
  by_cases hr : 0 ≤ f.r
  rotate_left
  · have d : decide (0 ≤ f.r) = false := by simpa using hr
    have VZ : z = false := by rw [V.out]; simp [hr]
    subst VZ
    go_wp2
    go_ret
    exact ⟨rfl, UE.out⟩
  have d : decide (0 ≤ f.r) = true := by simpa using hr
  by_cases hr5 : f.r < 5
  rotate_left
  · have d5 : decide (f.r < 5) = false := by simpa using hr5
    have VZ : z = false := by rw [V.out]; simp [hr5]
    subst VZ
    go_wp2
    go_ret
    exact ⟨rfl, UE.out⟩
  have d5 : decide (f.r < 5) = true := by simpa using hr5
  have VK := Lib.hid (show z = Fr.mayK f by rw [V.out]; simp [hr, hr5])
  clear V hr hr5
  rcases HK.out rfl with hk | hk | hk | hk | hk
  · have q0 : wc.cell? ⟨b, 0, none⟩ = some (.func (.func 72) #[] #[]) := by rw [p0, hk]; rfl
    have VE := Lib.hid (show z = Fr.mayP f by rw [VK.out]; simp [Fr.mayK, hk])
    clear p0 hk VK
    have C := Lib.hid (fun w h => mayPush_any f A n cap w h)
    unfold Fr.val at C
    go_wp2_with fail
    refine (C.out _ SE.out).mono ?_
    rintro x w1 ⟨rfl, hb1⟩
    go_wp2
    go_ret
    exact ⟨by rw [VE.out]; rfl, UE.out.trans hb1⟩
  · have q0 : wc.cell? ⟨b, 0, none⟩ = some (.func (.func 75) #[] #[]) := by rw [p0, hk]; rfl
    have VE := Lib.hid (show z = Fr.mayU f by rw [VK.out]; simp [Fr.mayK, hk])
    clear p0 hk VK
    have C := Lib.hid (fun w h => mayUpto_any f A n cap w h)
    unfold Fr.val at C
    go_wp2_with fail
    refine (C.out _ SE.out).mono ?_
    rintro x w1 ⟨rfl, hb1⟩
    go_wp2
    go_ret
    exact ⟨by rw [VE.out]; rfl, UE.out.trans hb1⟩
  · have q0 : wc.cell? ⟨b, 0, none⟩ = some (.func (.func 69) #[] #[]) := by rw [p0, hk]; rfl
    have VE := Lib.hid (show z = Fr.mayC f by rw [VK.out]; simp [Fr.mayK, hk])
    clear p0 hk VK
    have C := Lib.hid (fun w h => mayClock_any f A n cap w h)
    unfold Fr.val at C
    go_wp2_with fail
    refine (C.out _ SE.out).mono ?_
    rintro x w1 ⟨rfl, hb1⟩
    go_wp2
    go_ret
    exact ⟨by rw [VE.out]; rfl, UE.out.trans hb1⟩
  · have q0 : wc.cell? ⟨b, 0, none⟩ = some (.func (.func 78) #[] #[]) := by rw [p0, hk]; rfl
    have VE := Lib.hid (show z = Fr.mayE f by rw [VK.out]; simp [Fr.mayK, hk])
    clear p0 hk VK
    have C := Lib.hid (fun w h => mayEvents_any f A n cap w h)
    unfold Fr.val at C
    go_wp2_with fail
    refine (C.out _ SE.out).mono ?_
    rintro x w1 ⟨rfl, hb1⟩
    go_wp2
    go_ret
    exact ⟨by rw [VE.out]; rfl, UE.out.trans hb1⟩
  · have q0 : wc.cell? ⟨b, 0, none⟩ = some (.func (.func 69) #[] #[]) := by rw [p0, hk]; rfl
    have VE := Lib.hid (show z = Fr.mayC f by rw [VK.out]; simp [Fr.mayK, hk])
    clear p0 hk VK
    have C := Lib.hid (fun w h => mayClock_any f A n cap w h)
    unfold Fr.val at C
    go_wp2_with fail
    refine (C.out _ SE.out).mono ?_
    rintro x w1 ⟨rfl, hb1⟩
    go_wp2
    go_ret
    exact ⟨by rw [VE.out]; rfl, UE.out.trans hb1⟩
end Go.Proofs.Ythgfbnkggdlokaa
