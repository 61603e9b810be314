/-
  An event, plain: its value, its cells, which may be, which bytes it is.
-/
import Derived.Test.YtolpfchnfhdhkaaEdW
import Derived.Test.YtolpfchnfhdhkaaClk
import Derived.Test.YtolpfchnfhdhkaaPut
namespace Go.Proofs.Ytolpfchnfhdhkaa
open Go.RowKit
set_option maxRecDepth 100000

structure Ev where
  r : Int
  n : Int
  c : Ck
  h : Int
  k : Int
  key : ByteArray
  l : Int
  v : ByteArray
deriving DecidableEq
namespace Ev
def val (e : Ev) : Value := .agg #[.int .i64 e.r, .int .i64 e.n, .int .i64 e.c.c0, .int .i64 e.c.c1, .int .i64 e.c.c2, .int .i64 e.c.c3, .int .i64 e.c.c4, .int .i64 e.h, .int .i64 e.k, .string e.key, .int .i64 e.l, .string e.v]
def cells (e : Ev) : Array Value := #[.int .i64 e.r, .int .i64 e.n, .int .i64 e.c.c0, .int .i64 e.c.c1, .int .i64 e.c.c2, .int .i64 e.c.c3, .int .i64 e.c.c4, .int .i64 e.h, .int .i64 e.k, .string e.key, .int .i64 e.l, .string e.v]
def zero : Ev := ⟨0, 0, Ck.zero, 0, 0, ⟨#[]⟩, 0, ⟨#[]⟩⟩
def ed (e : Ev) : Ed := ⟨e.k, e.key, e.l, e.v⟩
def mark (r n : Int) : Bool := decide (0 ≤ r ∧ r < 5 ∧ 1 ≤ n ∧ n ≤ 1048576)
def seen (c : Ck) : Bool := decide ((0 ≤ c.c0 ∧ c.c0 ≤ 1048576) ∧ (0 ≤ c.c1 ∧ c.c1 ≤ 1048576) ∧ (0 ≤ c.c2 ∧ c.c2 ≤ 1048576) ∧ (0 ≤ c.c3 ∧ c.c3 ≤ 1048576) ∧ (0 ≤ c.c4 ∧ c.c4 ≤ 1048576))
def high (h : Int) : Bool := decide (1 ≤ h ∧ h ≤ 16777216)
def isW (k : Int) : Bool := decide (k ≠ 1 ∧ k ≠ 2)
def may (e : Ev) : Int :=
  if mark e.r e.n ∧ seen e.c ∧ e.c.get e.r.toNat = e.n - 1 ∧ high e.h then Tx.edit e.ed else 1
/-- A text, and how long it is ahead of it. -/
def raw (s : ByteArray) : List Nat := s.data.toList.map UInt8.toNat
def txt (s : ByteArray) : List Nat := s.size :: raw s
/-- The first i numbers of the clock, but that of r. -/
def others (r : Int) (c : Ck) : Nat → List Nat
  | 0 => []
  | i + 1 => others r c i ++ if (i : Int) = r then [] else Pl.put (c.get i).toNat
def tail (e : Ev) : List Nat := if isW e.k then e.l.toNat :: txt e.v else []
def bytes (e : Ev) : List Nat := [e.k.toNat, e.r.toNat] ++ Pl.put e.n.toNat ++ others e.r e.c 5 ++ Pl.put e.h.toNat ++ txt e.key ++ tail e
def out (e : Ev) : List Nat := if may e = 0 then bytes e else []

theorem seen_iff (c : Ck) : seen c = true ↔ ∀ j, j < 5 → 0 ≤ c.get j ∧ c.get j ≤ 1048576 := by
  simp only [seen, decide_eq_true_eq]
  constructor
  · rintro ⟨h0, h1, h2, h3, h4⟩ j hj
    match j, hj with
    | 0, _ | 1, _ | 2, _ | 3, _ | 4, _ => assumption
  · intro h
    exact ⟨h 0 (by omega), h 1 (by omega), h 2 (by omega), h 3 (by omega), h 4 (by omega)⟩
theorem raw_len (s : ByteArray) : (raw s).length = s.size := by
  rw [raw, List.length_map, Array.length_toList]; rfl
theorem raw_lt (s : ByteArray) : ∀ x ∈ raw s, x < 256 := fun x hx => by
  obtain ⟨y, _, rfl⟩ := List.mem_map.1 hx
  exact y.toNat_lt
theorem str_raw (s : ByteArray) : str (raw s) = s := by
  apply ByteArray.ext
  apply Array.ext'
  rw [str, strOfNums_data]
  simp [raw, List.map_map, Function.comp_def]
/-- What holds of an event that may be. -/
structure Good (e : Ev) : Prop where
  r0 : 0 ≤ e.r
  r5 : e.r < 5
  n1 : 1 ≤ e.n
  nM : e.n ≤ 1048576
  c : ∀ j, j < 5 → 0 ≤ e.c.get j ∧ e.c.get j ≤ 1048576
  own : e.c.get e.r.toNat = e.n - 1
  h1 : 1 ≤ e.h
  hM : e.h ≤ 16777216
  ed : Tx.edit e.ed = 0
theorem good_iff (e : Ev) : may e = 0 ↔ Good e := by
  unfold may
  constructor
  · intro h
    split at h
    · rename_i g
      obtain ⟨g1, g2, g3, g4⟩ := g
      rw [seen_iff] at g2
      simp only [mark, high, decide_eq_true_eq] at g1 g4
      exact ⟨g1.1, g1.2.1, g1.2.2.1, g1.2.2.2, g2, g3, g4.1, g4.2, h⟩
    · omega
  · intro g
    rw [if_pos]
    · exact g.ed
    · refine ⟨?_, (seen_iff _).2 g.c, g.own, ?_⟩
      · simp only [mark, decide_eq_true_eq]; exact ⟨g.r0, g.r5, g.n1, g.nM⟩
      · simp only [high, decide_eq_true_eq]; exact ⟨g.h1, g.hM⟩
end Ev

theorem isMark_any (r n : Int) (w : World) : Calls Try.prog 78 #[.int .i64 r, .int .i64 n] w fun e w' => e = .returned (.bool (Ev.mark r n)) ∧ w' = w := by
  obtain ⟨b, hb⟩ : ∃ b, Ev.mark r n = b := ⟨_, rfl⟩
  rw [hb]
  unfold Ev.mark at hb
  by_cases h0 : 0 ≤ r
  rotate_left
  · obtain rfl : b = false := by rw [← hb]; simp; omega
    have d : decide (0 ≤ r) = false := by simpa using h0
    clear hb
    go_enter Try.func78, Try.ntmps78
    go_wp2
    go_ret
    exact ⟨rfl, rfl⟩
  by_cases h5 : r < 5
  rotate_left
  · obtain rfl : b = false := by rw [← hb]; simp; omega
    have d : decide (r < 5) = false := by simpa using h5
    clear hb
    go_enter Try.func78, Try.ntmps78
    go_wp2
    go_ret
    exact ⟨rfl, rfl⟩
  by_cases h1 : 1 ≤ n
  rotate_left
  · obtain rfl : b = false := by rw [← hb]; simp; omega
    have d : decide (1 ≤ n) = false := by simpa using h1
    clear hb
    go_enter Try.func78, Try.ntmps78
    go_wp2
    go_ret
    exact ⟨rfl, rfl⟩
  by_cases h2 : n ≤ 1048576
  rotate_left
  · obtain rfl : b = false := by rw [← hb]; simp; omega
    have d : decide (n ≤ 1048576) = false := by simpa using h2
    clear hb
    go_enter Try.func78, Try.ntmps78
    go_wp2
    go_ret
    exact ⟨rfl, rfl⟩
  obtain rfl : b = true := by rw [← hb]; simp; omega
  have d : decide (n ≤ 1048576) = true := by simpa using h2
  clear hb
  go_enter Try.func78, Try.ntmps78
  go_wp2
  go_ret
  exact ⟨rfl, rfl⟩
theorem isHeight_any (n : Int) (w : World) : Calls Try.prog 80 #[.int .i64 n] w fun e w' => e = .returned (.bool (Ev.high n)) ∧ w' = w := by
  obtain ⟨b, hb⟩ : ∃ b, Ev.high n = b := ⟨_, rfl⟩
  rw [hb]
  unfold Ev.high at hb
  by_cases h0 : 1 ≤ n
  rotate_left
  · obtain rfl : b = false := by rw [← hb]; simp; omega
    have d : decide (1 ≤ n) = false := by simpa using h0
    clear hb
    go_enter Try.func80, Try.ntmps80
    go_wp2
    go_ret
    exact ⟨rfl, rfl⟩
  by_cases h5 : n ≤ 16777216
  rotate_left
  · obtain rfl : b = false := by rw [← hb]; simp; omega
    have d : decide (n ≤ 16777216) = false := by simpa using h5
    clear hb
    go_enter Try.func80, Try.ntmps80
    go_wp2
    go_ret
    exact ⟨rfl, rfl⟩
  obtain rfl : b = true := by rw [← hb]; simp; omega
  have d : decide (n ≤ 16777216) = true := by simpa using h5
  clear hb
  go_enter Try.func80, Try.ntmps80
  go_wp2
  go_ret
  exact ⟨rfl, rfl⟩
set_option maxRecDepth 100000 in
set_option maxHeartbeats 400000 in
theorem isSeen_any (c : Ck) (w : World) : Calls Try.prog 79 #[c.val] w fun e w' => e = .returned (.bool (Ev.seen c)) ∧ Below w.heap.size w w' := by
  have HB := Lib.hid (show Below w.heap.size w (w.alloc (.cells #[.int .i64 c.c0, .int .i64 c.c1, .int .i64 c.c2, .int .i64 c.c3, .int .i64 c.c4] 24)) from (Below.refl _ _).alloc (Nat.le_refl _) _)
  have hbad : ∀ j, j < 5 → (c.get j < 0 ∨ 1048576 < c.get j) → Ev.seen c = false := fun j hj h => by
    rw [← Bool.not_eq_true, Ev.seen_iff]
    intro hs
    have := hs j hj
    omega
  have hgood : (∀ j, j < 5 → 0 ≤ c.get j ∧ c.get j ≤ 1048576) → Ev.seen c = true := fun h => (Ev.seen_iff c).2 h
  have HBad := Lib.hid hbad; have HGood := Lib.hid hgood
  clear hbad hgood
  have HX := Lib.hid (show ∀ j, j < 5 → ∀ w, (Instr.index 24 (.agg #[.int .i64 c.c0, .int .i64 c.c1, .int .i64 c.c2, .int .i64 c.c3, .int .i64 c.c4]) (.int .i64 (j : Nat))).run Try.prog w = .ok (.int .i64 (c.get j)) w from fun j hj w => by
    match j, hj with
    | 0, _ | 1, _ | 2, _ | 3, _ | 4, _ => go_simp; rfl)
  generalize Ev.seen c = b at *
  unfold Ck.val
  go_enter Try.func79, Try.ntmps79
  go_wp2
  go_loop [6] (fun v => ∃ k : Nat, k ≤ 5 ∧ v = .int .i64 k ∧ Hid (∀ j, j < k → 0 ≤ c.get j ∧ c.get j ≤ 1048576)) (fun v => 5 - (intOf v).toNat)
  case atStart => exact ⟨0, by omega, rfl, Lib.hid (fun j hj => absurd hj (by omega))⟩
  case round =>
    obtain ⟨k, hk, rfl, HA⟩ := hrel
    by_cases h5 : k < 5
    · have hx := HX.out k h5
      have h5' : (k : Int) < 5 := by omega
      have HZ := Lib.hid (fun h => HBad.out k h5 h)
      have HN := Lib.hid (fun (h : 0 ≤ c.get k ∧ c.get k ≤ 1048576) => (show ∀ j, j < k + 1 → 0 ≤ c.get j ∧ c.get j ≤ 1048576 from fun j hj => by
        rcases Nat.lt_succ_iff_lt_or_eq.1 hj with h1 | rfl
        · exact HA.out j h1
        · exact h))
      generalize hg : c.get k = x at hx HZ HN
      clear hg HX HBad HGood HA
      by_cases hl : x < 0
      · obtain rfl := HZ.out (.inl hl)
        have d : decide (x < 0) = true := by simpa using hl
        go_wp2
        go_ret
        exact ⟨rfl, HB.out⟩
      have d : decide (x < 0) = false := by simpa using hl
      by_cases hm : 1048576 < x
      · obtain rfl := HZ.out (.inr hm)
        have d2 : decide (1048576 < x) = true := by simpa using hm
        go_wp2
        go_ret
        exact ⟨rfl, HB.out⟩
      have d2 : decide (1048576 < x) = false := by simpa using hm
      go_wp2
      go_round
      case rel => exact ⟨k + 1, by omega, by go_num, Lib.hid (HN.out (by omega))⟩
      case measure => simp [intOf]; omega
    · obtain rfl : k = 5 := by omega
      obtain rfl := HGood.out HA.out
      clear HX HBad HGood HA
      go_wp2
      go_ret
      exact ⟨rfl, HB.out⟩
end Go.Proofs.Ytolpfchnfhdhkaa
