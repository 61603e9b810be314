/-
  few, wrote.
-/
import Derived.Test.YtolpfchnfhdhkaaBku
import Derived.Test.YtolpfchnfhdhkaaEvE
namespace Go.Proofs.Ytolpfchnfhdhkaa
open Go.RowKit
set_option maxRecDepth 100000
set_option maxRecDepth 100000

namespace Bk
/-- An event of this kind, key, label and value. -/
def like (e x : Ev) : Bool := decide (x.k = e.k ∧ x.key = e.key ∧ (e.k = 1 ∨ (x.l = e.l ∧ x.v = e.v)))
def wrote (es : List Ev) (e : Ev) : Bool := es.any (like e)
theorem wrote_iff (es : List Ev) (e : Ev) : wrote es e = true ↔ ∃ x ∈ es, x.k = e.k ∧ x.key = e.key ∧ (e.k = 1 ∨ (x.l = e.l ∧ x.v = e.v)) := by
  unfold wrote like
  rw [List.any_eq_true]
  simp only [decide_eq_true_eq]
theorem any_take_succ {es : List Ev} (f : Ev → Bool) {k : Nat} (h : k < es.length) : (es.take (k + 1)).any f = ((es.take k).any f || f (Ev.nth es k)) := by
  rw [ev_take h, List.any_append]; simp
theorem any_take_all {es : List Ev} (f : Ev → Bool) {k : Nat} (h : k < es.length) (hf : f (Ev.nth es k) = true) : es.any f = true :=
  List.any_eq_true.2 ⟨_, by rw [Ev.nth, List.getD, List.getElem?_eq_getElem h]; exact List.getElem_mem h, hf⟩
end Bk
set_option maxHeartbeats 1600000 in
theorem few_any (A : Option Addr) (n cap : Nat) (w : World) (es : List Ev) (h : EvSl w A n cap es) :
    Calls Try.prog 31 #[.slice A n cap] w fun x w' => (∃ m, m ≤ n ∧ m ≤ 30 ∧ x = .returned (.slice A m cap)) ∧ w' = w := by
  have hl := h.2.1
  have hm := h.2.2.1
  clear h
  go_enter Try.func31, Try.ntmps31
  by_cases h30 : n < 30
  · have h30' : (n : Int) < 30 := by omega
    go_wp2
    go_ret
    exact ⟨⟨n, by omega, by omega, by simp; omega⟩, rfl⟩
  · have h30' : ¬ (n : Int) < 30 := by omega
    go_wp2
    go_ret
    exact ⟨⟨30, by omega, by omega, by simp; omega⟩, rfl⟩
def WroRel (es : List Ev) (e : Ev) (s : Nat) (W : World) (v : Value) (wr : World) : Prop :=
  ∃ k : Nat, k ≤ es.length ∧ v = .int .i64 k ∧ (es.take k).any (Bk.like e) = false ∧ Hid (Blk wr s e.cells 39) ∧ Hid (Below s W wr)

set_option maxHeartbeats 6400000 in
theorem wrote_any (es : List Ev) (A : Option Addr) (n cap : Nat) (e : Ev) (w : World) (h : EvSl w A n cap es) :
    Calls Try.prog 41 #[.slice A n cap, e.val] w fun x w' => x = .returned (.bool (Bk.wrote es e)) ∧ Lex.Up w w' := by
  have SL := Lib.hid (fun w' (hu : Lex.Up w w') => EvSl.up h hu)
  have AD := Lib.hid h.addr
  have hl := h.len
  have hlim := h.lim
  have HL := Lib.hid hl
  have hW : Bk.wrote es e = (es.take n).any (Bk.like e) := by rw [← hl, List.take_length]; rfl
  have HW := Lib.hid hW
  have K0 := Lib.hid (Blk.new w e.cells 39)
  have U0 := Lib.hid (show Lex.Up w (w.alloc (.cells e.cells 39)) from (Below.refl _ _).alloc (Nat.le_refl _) _)
  unfold Ev.cells at K0 U0
  unfold Ev.val
  clear h hl hW
  go_enter Try.func41, Try.ntmps41
  go_wp2
  go_loopw [5] (fun v wr => WroRel es e w.heap.size w v wr) (fun v _ => n - (intOf v).toNat)
  case atStart => exact ⟨0, by omega, rfl, by simp, K0, U0⟩
  case round =>
    obtain ⟨k, hk, rfl, hno, KK, UU⟩ := hrel
    rw [HL.out] at hk
    clear K0 U0
    by_cases h5 : k < n
    · have h5' : (k : Int) < n := by omega
      obtain ⟨b, off, rfl⟩ := AD.out (by omega)
      obtain ⟨e0, e1, e2, e3, e4, e5, e6, e7, e8, e9, e10, e11⟩ := ev_at (SL.out wr UU.out) h5
      have TK := Lib.hid (Bk.any_take_succ (Bk.like e) (es := es) (k := k) (by rw [HL.out]; exact h5))
      have TA := Lib.hid (Bk.any_take_all (Bk.like e) (es := es) (k := k) (by rw [HL.out]; exact h5))
      generalize Ev.nth es k = x at e0 e1 e2 e3 e4 e5 e6 e7 e8 e9 e10 e11 TK TA
      have hbw : w.heap.size ≤ wr.heap.size := UU.out.size
      go_upto_region 5 with (fail)
      refine wp_named (fun W5 hW => ?_)
      have up5 : Lex.Up wr W5 := by rw [hW]; exact (Below.refl _ _).alloc (Nat.le_refl _) _
      have X5 := Lib.hid (show Blk W5 wr.heap.size x.cells 39 by rw [hW]; exact Blk.new wr x.cells 39)
      have E5 := Lib.hid (KK.out.up up5)
      have U5 := Lib.hid (show Below w.heap.size w W5 from Below.trans UU.out (up5.mono hbw))
      clear hW up5 KK UU e0 e1 e2 e3 e4 e5 e6 e7 e8 e9 e10 e11
      obtain ⟨a0, a1, a2, a3, a4, a5, a6, a7, a8, a9, a10, a11⟩ := X5.out.e12
      obtain ⟨b0, b1, b2, b3, b4, b5, b6, b7, b8, b9, b10, b11⟩ := E5.out.e12
      clear X5
      by_cases k1 : x.k = e.k
      rotate_left
      · have d1 : (x.k == e.k) = false := by simpa using k1
        have hq : Bk.like e x = false := by simp [Bk.like, k1]
        clear k1
        have TN := Lib.hid (show (es.take (k + 1)).any (Bk.like e) = false by rw [TK.out, hno, hq]; rfl)
        clear TK hq
        go_wp2
        go_roundw
        case rel => exact ⟨k + 1, by rw [HL.out]; omega, by go_num, TN.out, E5, U5⟩
        case measure => simp [intOf]; omega
      have d1 : (x.k == e.k) = true := by simpa using k1
      by_cases k2 : x.key = e.key
      rotate_left
      · have d2 : (x.key.toList == e.key.toList) = false := by rw [beq_eq_false_iff_ne, ne_eq, bytes_ext]; exact k2
        have hq : Bk.like e x = false := by simp [Bk.like, k2]
        clear k1 k2
        have TN := Lib.hid (show (es.take (k + 1)).any (Bk.like e) = false by rw [TK.out, hno, hq]; rfl)
        clear TK hq
        go_wp2
        go_roundw
        case rel => exact ⟨k + 1, by rw [HL.out]; omega, by go_num, TN.out, E5, U5⟩
        case measure => simp [intOf]; omega
      have d2 : (x.key.toList == e.key.toList) = true := by rw [beq_iff_eq, bytes_ext]; exact k2
      by_cases k3 : e.k = 1
      · have d3 : (e.k == 1) = true := by simpa using k3
        have hq := Lib.hid (TA.out (by simp [Bk.like, k1, k2, k3]))
        have hw : Bk.wrote es e = true := hq.out
        clear k1 k2 k3 TK TA hno HW hq
        go_wp2
        go_ret
        exact ⟨by rw [hw]; rfl, U5.out⟩
      have d3 : (e.k == 1) = false := by simpa using k3
      by_cases k4 : x.l = e.l
      rotate_left
      · have d4 : (x.l == e.l) = false := by simpa using k4
        have hq : Bk.like e x = false := by simp [Bk.like, k3, k4]
        clear k1 k2 k3 k4
        have TN := Lib.hid (show (es.take (k + 1)).any (Bk.like e) = false by rw [TK.out, hno, hq]; rfl)
        clear TK hq
        go_wp2
        go_roundw
        case rel => exact ⟨k + 1, by rw [HL.out]; omega, by go_num, TN.out, E5, U5⟩
        case measure => simp [intOf]; omega
      have d4 : (x.l == e.l) = true := by simpa using k4
      by_cases k5 : x.v = e.v
      · have d5 : (x.v.toList == e.v.toList) = true := by rw [beq_iff_eq, bytes_ext]; exact k5
        have hq := Lib.hid (TA.out (by simp [Bk.like, k1, k2, k4, k5]))
        have hw : Bk.wrote es e = true := hq.out
        clear k1 k2 k3 k4 k5 TK TA hno HW hq
        go_wp2
        go_ret
        exact ⟨by rw [hw]; rfl, U5.out⟩
      · have d5 : (x.v.toList == e.v.toList) = false := by rw [beq_eq_false_iff_ne, ne_eq, bytes_ext]; exact k5
        have hq : Bk.like e x = false := by simp [Bk.like, k3, k5]
        clear k1 k2 k3 k4 k5
        have TN := Lib.hid (show (es.take (k + 1)).any (Bk.like e) = false by rw [TK.out, hno, hq]; rfl)
        clear TK hq
        go_wp2
        go_roundw
        case rel => exact ⟨k + 1, by rw [HL.out]; omega, by go_num, TN.out, E5, U5⟩
        case measure => simp [intOf]; omega
    · obtain rfl : k = n := by omega
      rw [← HW.out] at hno
      go_wp2
      go_ret
      exact ⟨by rw [hno]; rfl, UU.out⟩
end Go.Proofs.Ytolpfchnfhdhkaa
