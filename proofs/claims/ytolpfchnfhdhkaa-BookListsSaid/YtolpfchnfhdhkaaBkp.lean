/-
  What counts, and what a draft holds of the events that were read, plain.
-/
import Derived.Test.YtolpfchnfhdhkaaDrw
namespace Go.Proofs.Ytolpfchnfhdhkaa
open Go.RowKit
set_option maxRecDepth 100000
set_option maxRecDepth 100000

def Ev.stp (e : Ev) : Stp := ⟨e.h, e.r⟩
namespace Bk
def cnt (es : List Ev) (e : Ev) : Bool :=
  if e.k = 1 then !underC es 2 e else if e.k = 3 then standC (first es es e.key) e else if e.k = 4 then standC (first es es e.key) e && !underC es 5 e else false
def isW (es : List Ev) (key : ByteArray) (k : Int) (l : Nat) (x : Ev) : Bool := cnt es x && decide (x.k = k ∧ x.key = key ∧ x.l = l ∧ l < 2)
def fl (es pre : List Ev) (key : ByteArray) (l : Nat) : List Ev := pre.filter (isW es key 3 l)
def al (es pre : List Ev) (key : ByteArray) (l : Nat) : List Ev := pre.filter (isW es key 4 l)
def strs (xs : List Ev) : Nat × List Value := (xs.length, xs.map fun x => .string x.v)
def stps (xs : List Ev) : Nat × List Value := (xs.length, Stp.flat (xs.map Ev.stp))
/-- What a draft of this key holds. -/
def drOf (es pre : List Ev) (key : ByteArray) : Nat → Nat × List Value := fun j =>
  if j < 2 then strs (fl es pre key j) else if j < 4 then stps (fl es pre key (j - 2)) else strs (al es pre key (j - 4))
def wr (D : Nat → Nat × List Value) (x : Ev) : Nat → Nat × List Value :=
  if Dr.lab x.l = true then
    if x.k = 3 then Dr.addAt (Dr.addAt D x.l.toNat [.string x.v]) (2 + x.l.toNat) [.int .i64 x.h, .int .i64 x.r]
    else if x.k = 4 then Dr.addAt D (4 + x.l.toNat) [.string x.v] else D
  else D
theorem isW_iff (es : List Ev) (key : ByteArray) (k : Int) (l : Nat) (x : Ev) : isW es key k l x = true ↔ cnt es x = true ∧ x.k = k ∧ x.key = key ∧ x.l = l ∧ l < 2 := by simp [isW]
theorem strs_add (xs : List Ev) (x : Ev) : strs (xs ++ [x]) = ((strs xs).1 + 1, (strs xs).2 ++ [.string x.v]) := by simp [strs]
theorem stps_add (xs : List Ev) (x : Ev) : stps (xs ++ [x]) = ((stps xs).1 + 1, (stps xs).2 ++ [.int .i64 x.h, .int .i64 x.r]) := by simp [stps, Stp.flat, Ev.stp]
theorem filt_add (p : Ev → Bool) (pre : List Ev) (x : Ev) : (pre ++ [x]).filter p = if p x = true then pre.filter p ++ [x] else pre.filter p := by
  rw [List.filter_append]
  cases h : p x <;> simp [h]
theorem dr_nil (es : List Ev) (key : ByteArray) : drOf es [] key = fun _ => (0, []) := by
  funext j
  unfold drOf fl al
  simp only [List.filter_nil]
  split
  · rfl
  · split <;> rfl
theorem dr_other (es pre : List Ev) (x : Ev) (key : ByteArray) (h : ¬ (cnt es x = true ∧ x.key = key)) : drOf es (pre ++ [x]) key = drOf es pre key := by
  have hf : ∀ k l, isW es key k l x = false := fun k l => by
    rw [← Bool.not_eq_true, isW_iff]
    intro q
    exact h ⟨q.1, q.2.2.1⟩
  funext j
  unfold drOf fl al
  simp only [filt_add, hf, Bool.false_eq_true, if_false]
theorem lab_iff (l : Int) : Dr.lab l = true ↔ 0 ≤ l ∧ l < 2 := by simp [Dr.lab]
theorem drv0 (es pre : List Ev) (key : ByteArray) {i : Nat} (h : i < 2) : drOf es pre key i = strs (fl es pre key i) := by
  unfold drOf; rw [if_pos h]
theorem drv2 (es pre : List Ev) (key : ByteArray) {i : Nat} (h : i < 2) : drOf es pre key (2 + i) = stps (fl es pre key i) := by
  unfold drOf; rw [if_neg (by omega), if_pos (by omega), show 2 + i - 2 = i by omega]
theorem drv4 (es pre : List Ev) (key : ByteArray) (i : Nat) : drOf es pre key (4 + i) = strs (al es pre key i) := by
  unfold drOf; rw [if_neg (by omega), if_neg (by omega), show 4 + i - 4 = i by omega]
theorem addAt_same (D : Nat → Nat × List Value) (j : Nat) (ys : List Value) : Dr.addAt D j ys j = ((D j).1 + 1, (D j).2 ++ ys) := by unfold Dr.addAt Dr.upd; rw [if_pos rfl]
theorem addAt_other (D : Nat → Nat × List Value) {j i : Nat} (ys : List Value) (h : i ≠ j) : Dr.addAt D j ys i = D i := by unfold Dr.addAt Dr.upd; rw [if_neg h]
theorem dr_add (es pre : List Ev) (x : Ev) (h : cnt es x = true) : drOf es (pre ++ [x]) x.key = wr (drOf es pre x.key) x := by
  have cases3 : ∀ (P : Nat → Prop), (∀ i, i < 2 → P i) → (∀ i, i < 2 → P (2 + i)) → (∀ i, P (4 + i)) → ∀ j, P j := fun P a b c j => by
    rcases Nat.lt_or_ge j 2 with h1 | h1
    · exact a j h1
    · rcases Nat.lt_or_ge j 4 with h2 | h2
      · have := b (j - 2) (by omega); rwa [show 2 + (j - 2) = j by omega] at this
      · have := c (j - 4); rwa [show 4 + (j - 4) = j by omega] at this
  by_cases hl : Dr.lab x.l = true
  · obtain ⟨h0, h2⟩ := (lab_iff _).1 hl
    obtain ⟨k, hk⟩ : ∃ k : Nat, x.l = k := ⟨x.l.toNat, by omega⟩
    have hk2 : k < 2 := by omega
    have hw : ∀ q l, isW es x.key q l x = decide (x.k = q ∧ l = k) := fun q l => by
      rw [Bool.eq_iff_iff, isW_iff, decide_eq_true_eq, hk]
      constructor
      · rintro ⟨_, a, _, b, _⟩; exact ⟨a, by omega⟩
      · rintro ⟨a, b⟩; exact ⟨h, a, rfl, by omega, by omega⟩
    have ht : x.l.toNat = k := by omega
    have hf : ∀ l, fl es (pre ++ [x]) x.key l = if x.k = 3 ∧ l = k then fl es pre x.key l ++ [x] else fl es pre x.key l := fun l => by
      unfold fl; rw [filt_add, hw]; simp only [decide_eq_true_eq]
    have ha : ∀ l, al es (pre ++ [x]) x.key l = if x.k = 4 ∧ l = k then al es pre x.key l ++ [x] else al es pre x.key l := fun l => by
      unfold al; rw [filt_add, hw]; simp only [decide_eq_true_eq]
    unfold wr
    rw [if_pos hl, ht]
    by_cases h3 : x.k = 3
    · rw [if_pos h3]
      funext j
      revert j
      refine cases3 _ (fun i hi => ?_) (fun i hi => ?_) (fun i => ?_)
      · rw [drv0 _ _ _ hi, hf, addAt_other _ _ (by omega)]
        by_cases e : i = k
        · subst e
          rw [if_pos ⟨h3, rfl⟩, addAt_same, drv0 _ _ _ hi, strs_add]
        · rw [if_neg (fun q => e q.2), addAt_other _ _ e, drv0 _ _ _ hi]
      · rw [drv2 _ _ _ hi, hf]
        by_cases e : i = k
        · subst e
          rw [if_pos ⟨h3, rfl⟩, addAt_same, addAt_other _ _ (by omega), drv2 _ _ _ hi, stps_add]
        · rw [if_neg (fun q => e q.2), addAt_other _ _ (by omega), addAt_other _ _ (by omega), drv2 _ _ _ hi]
      · rw [drv4, ha, if_neg (by omega), addAt_other _ _ (by omega), addAt_other _ _ (by omega), drv4]
    · rw [if_neg h3]
      by_cases h4 : x.k = 4
      · rw [if_pos h4]
        funext j
        revert j
        refine cases3 _ (fun i hi => ?_) (fun i hi => ?_) (fun i => ?_)
        · rw [drv0 _ _ _ hi, hf, if_neg (fun q => h3 q.1), addAt_other _ _ (by omega), drv0 _ _ _ hi]
        · rw [drv2 _ _ _ hi, hf, if_neg (fun q => h3 q.1), addAt_other _ _ (by omega), drv2 _ _ _ hi]
        · rw [drv4, ha]
          by_cases e : i = k
          · subst e
            rw [if_pos ⟨h4, rfl⟩, addAt_same, drv4, strs_add]
          · rw [if_neg (fun q => e q.2), addAt_other _ _ (by omega), drv4]
      · rw [if_neg h4]
        funext j
        revert j
        refine cases3 _ (fun i hi => ?_) (fun i hi => ?_) (fun i => ?_)
        · rw [drv0 _ _ _ hi, hf, if_neg (fun q => h3 q.1), drv0 _ _ _ hi]
        · rw [drv2 _ _ _ hi, hf, if_neg (fun q => h3 q.1), drv2 _ _ _ hi]
        · rw [drv4, ha, if_neg (fun q => h4 q.1), drv4]
  · have hw : ∀ q l, isW es x.key q l x = false := fun q l => by
      rw [← Bool.not_eq_true, isW_iff]
      rintro ⟨_, _, _, a, b⟩
      exact hl ((lab_iff _).2 ⟨by omega, by omega⟩)
    unfold wr
    rw [if_neg hl]
    funext j
    unfold drOf fl al
    simp only [filt_add, hw, Bool.false_eq_true, if_false]
theorem dr_len (es pre : List Ev) (key : ByteArray) (j : Nat) : (drOf es pre key j).1 ≤ pre.length := by
  unfold drOf
  split
  · exact List.length_filter_le _ _
  · split
    · exact List.length_filter_le _ _
    · exact List.length_filter_le _ _
end Bk
end Go.Proofs.Ytolpfchnfhdhkaa
