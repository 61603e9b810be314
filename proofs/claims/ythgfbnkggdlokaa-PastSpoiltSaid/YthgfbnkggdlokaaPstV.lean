/-
  The order of a right past, plain.
-/
import Derived.Test.YthgfbnkggdlokaaPstU
import Derived.Test.YthgfbnkggdlokaaStp
namespace Go.Proofs.Ythgfbnkggdlokaa
open Go.RowKit
set_option maxRecDepth 100000
set_option maxRecDepth 100000
namespace Pst
theorem nth_mem {es : List Ev} {k : Nat} (h : k < es.length) : Ev.nth es k ∈ es := by simp [Ev.nth, h]
theorem one_nth {es : List Ev} (h : One es) {i k : Nat} (hi : i < es.length) (hk : k < es.length) (hne : i ≠ k) : (Ev.nth es i).mk' ≠ (Ev.nth es k).mk' := by
  unfold One at h
  rw [List.pairwise_iff_getElem] at h
  have e : ∀ j, (hj : j < es.length) → Ev.nth es j = es[j] := fun j hj => by simp [Ev.nth, hj]
  rw [e i hi, e k hk]
  rcases Nat.lt_or_ge i k with h1 | h1
  · exact h i k hi hk h1
  · exact fun q => h k i hk hi (by omega) q.symm
theorem up_high {es : List Ev} (R : RightP es) {a b : Ev} (ha : a ∈ es) (hb : b ∈ es) (h : hs b.c a) : a.h < b.h := high_gt R.may (R.high b hb) ha h
theorem up_down {es : List Ev} (R : RightP es) {a b : Ev} (ha : a ∈ es) (hb : b ∈ es) (h : hs b.c a) : ¬ hs a.c b := fun h2 => by
  have h3 := up_high R ha hb h
  have h4 := up_high R hb ha h2
  omega
/-- What a clock of a right past has is there, and had seen no more. -/
theorem up_le {es : List Ev} (R : RightP es) {a b : Ev} (ha : a ∈ es) (hb : b ∈ es) (h : hs b.c a) : Ck.le a.c b.c = true := by
  have g := (has_iff _ _ _).1 h
  obtain ⟨r, hr, hr5⟩ : ∃ r : Nat, a.r = r ∧ r < 5 := ⟨a.r.toNat, by omega, by omega⟩
  have g2 := (hs_at hr5 hr).1 h
  obtain ⟨s, k1, k2, k3, k4⟩ := R.seen b hb r hr5 a.n g2.1 g2.2
  have hx : s = a := one_eq R.one k1 ha ((Mk.ext_iff' _ _).2 ⟨by show s.r = a.r; omega, k3⟩)
  rw [hx] at k4
  exact k4
theorem up_trans {es : List Ev} (R : RightP es) {a b c : Ev} (hb : b ∈ es) (hc : c ∈ es) (h1 : hs b.c a) (h2 : hs c.c b) : hs c.c a := has_mono h1 (up_le R hb hc h2)
theorem stamp_ne {es : List Ev} (R : RightP es) {a b : Ev} (ha : a ∈ es) (hb : b ∈ es) (hne : a.mk' ≠ b.mk') : ¬ (a.h = b.h ∧ a.r = b.r) := by
  rintro ⟨h1, h2⟩
  have A := (Ev.good_iff a).1 (R.may a ha)
  have B := (Ev.good_iff b).1 (R.may b hb)
  have oa := A.own
  have ob := B.own
  have a0 := A.r0
  have a5 := A.r5
  have an := A.n1
  have bn := B.n1
  obtain ⟨r, hr, hr5⟩ : ∃ r : Nat, a.r = r ∧ r < 5 := ⟨a.r.toNat, by omega, by omega⟩
  rw [hr] at oa
  rw [← h2, hr] at ob
  simp only [Int.toNat_natCast] at oa ob
  have hn : a.n ≠ b.n := fun e => hne ((Mk.ext_iff' _ _).2 ⟨h2, e⟩)
  rcases Int.lt_or_le a.n b.n with h | h
  · have := up_high R ha hb ((hs_at hr5 hr).2 ⟨an, by omega⟩)
    omega
  · have := up_high R hb ha ((hs_at hr5 (h2 ▸ hr)).2 ⟨bn, by omega⟩)
    omega
theorem less_one {es : List Ev} (R : RightP es) {a b : Ev} (ha : a ∈ es) (hb : b ∈ es) (hne : a.mk' ≠ b.mk') : (Stp.less ⟨a.h, a.r⟩ ⟨b.h, b.r⟩ == Stp.less ⟨b.h, b.r⟩ ⟨a.h, a.r⟩) = false := by
  have h := stamp_ne R ha hb hne
  unfold Stp.less
  simp only
  by_cases h1 : a.h = b.h
  · have h2 : a.r ≠ b.r := fun e => h ⟨h1, e⟩
    rcases Int.lt_or_le a.r b.r with h3 | h3
    · have h4 : ¬ b.r < a.r := by omega
      simp [h1, h3, h4]
    · have h4 : b.r < a.r := by omega
      have h5 : ¬ a.r < b.r := by omega
      simp [h1, h4, h5]
  · have h2 : b.h ≠ a.h := fun e => h1 e.symm
    rcases Int.lt_or_le a.h b.h with h3 | h3
    · have h4 : ¬ b.h < a.h := by omega
      simp [h1, h2, h3, h4]
    · have h4 : b.h < a.h := by omega
      have h5 : ¬ a.h < b.h := by omega
      simp [h1, h2, h4, h5]
end Pst
end Go.Proofs.Ythgfbnkggdlokaa
