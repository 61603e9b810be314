/-
  The walk of book.Of: what the rules count; the loop over the events.
-/
import Derived.Test.YtolpfchnfhdhkaaOfw
namespace Go.Proofs.Ytolpfchnfhdhkaa
open Go.RowKit
set_option maxRecDepth 100000
set_option maxRecDepth 100000

theorem cnt1_any (B bm bs b0 b1 : Nat) (es : List Ev) (e : Ev) (w : World) (h : Rul w B bm bs b0 b1 es) (hk : e.k = 1) : Calls Try.prog 91 #[.agg #[.map (some b0), .map (some b1)], e.val] w fun x w' => x = .returned (.bool (Bk.cnt es e)) ∧ Lex.Up w w' := by
  obtain ⟨m0, m1, h0, hs0, h1, hs1⟩ := h.g
  have := lives_any b0 (some b1) m0 es e w h0 hs0
  rwa [show (!Bk.underC es 2 e) = Bk.cnt es e by unfold Bk.cnt; rw [if_pos hk]] at this
theorem cnt3_any (B bm bs b0 b1 : Nat) (es : List Ev) (e : Ev) (w : World) (h : Rul w B bm bs b0 b1 es) (hk : e.k = 3) : Calls Try.prog 94 #[.agg #[.map (some b0), .map (some b1)], e.val] w fun x w' => x = .returned (.bool (Bk.cnt es e)) ∧ Lex.Up w w' := by
  obtain ⟨m0, m1, h0, hs0, h1, hs1⟩ := h.g
  have := stands_any b1 (some b0) m1 _ e w h1 (hs1 e.key)
  rwa [show Bk.standC (Bk.first es es e.key) e = Bk.cnt es e by unfold Bk.cnt; rw [if_neg (by omega), if_pos hk]] at this
theorem cnt4b_any (B bm bs b0 b1 : Nat) (es : List Ev) (e : Ev) (w : World) (h : Rul w B bm bs b0 b1 es) (hk : e.k = 4) : Calls Try.prog 98 #[e.val, .pointer (some ⟨bs, 0, none⟩)] w fun x w' => x = .returned (.bool (Bk.cnt es e)) ∧ Lex.Up w w' := by
  have := cnt4_any bs b0 b1 es e w h.s h.g
  rwa [show (Bk.standC (Bk.first es es e.key) e && !Bk.underC es 5 e) = Bk.cnt es e by unfold Bk.cnt; rw [if_neg (by omega), if_neg (by omega), if_pos hk]] at this
theorem zero_ptr (w : World) : (zeroValue 98).run Try.prog w = .ok (.pointer none) w := by
  have hi : (Try.prog.info? 98).map (fun i => (i.zero, i.size, i.bytes)) = some (some (.pointer none), 1, 8) := by kernel_rfl
  obtain ⟨i0, hi, hz0, hz1, hz2⟩ := info_parts hi
  simp [zeroValue, typeInfo, hi, hz0]
/-- The rule of a kind. -/
def Bk.ruleOf (bs b0 b1 : Nat) (k : Int) : Value := (Gm.get (Bk.rules bs b0 b1) k).getD Bk.norule
def Bk.ruled (k : Int) : Bool := decide (k = 1 ∨ k = 3 ∨ k = 4)
theorem Rul.look {w : World} {B bm bs b0 b1 : Nat} {es : List Ev} (h : Rul w B bm bs b0 b1 es) (k : Int) :
    (Instr.lookup 91 (.map (some bm)) (.int .i64 k) true).run Try.prog w = .ok (.tuple #[Bk.ruleOf bs b0 b1 k, .bool (Bk.ruled k)]) w := by
  have := Gm.look (T := intKey) 91 96 Try.underlying91 (zero_rule w) h.m k true
  rw [if_pos rfl] at this
  have e2 : (Gm.get (Bk.rules bs b0 b1) k).isSome = Bk.ruled k := by
    unfold Bk.rules Bk.ruled
    simp only [Gm.get_cons, Gm.get_nil]
    by_cases h1 : k = 1
    · simp [h1]
    · by_cases h3 : k = 3
      · simp [h3]
      · by_cases h4 : k = 4
        · simp [h4]
        · simp [h1, h3, h4]
  rw [e2] at this
  exact this
/-- None of the rules' blocks is a draft's. -/
def NoOwn (own : Nat → Option (Nat × Nat)) (bm bs b0 b1 : Nat) : Prop := own bm = none ∧ own bs = none ∧ own b0 = none ∧ own b1 = none
def OfRel (es : List Ev) (s bm bs b0 b1 : Nat) (W : World) (v : Value) (wr : World) : Prop :=
  ∃ (k : Nat) (own : Nat → Option (Nat × Nat)) (L : List (ByteArray × Nat)), k ≤ es.length ∧ v = .int .i64 k ∧ Hid (Dfs wr s s own L es (es.take k)) ∧ Hid (HasK L es (es.take k)) ∧ L.length ≤ k ∧ Hid (Rul wr s bm bs b0 b1 es) ∧ Hid (NoOwn own bm bs b0 b1) ∧ Hid (Below s W wr)
end Go.Proofs.Ytolpfchnfhdhkaa
