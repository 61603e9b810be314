/-
  A right past of which one thing is changed, plain.
-/
import Derived.Test.YthgfbnkggdlokaaPstW
namespace Go.Proofs.Ythgfbnkggdlokaa
open Go.RowKit
set_option maxRecDepth 100000
set_option maxRecDepth 100000
namespace Pst
theorem split_at {es : List Ev} {k : Nat} (hk : k < es.length) : es = es.take k ++ Ev.nth es k :: es.drop (k + 1) := by
  have e : Ev.nth es k = es[k] := by simp [Ev.nth, hk]
  rw [e, ← List.drop_eq_getElem_cons hk, List.take_append_drop]
theorem set_split {es : List Ev} {k : Nat} (hk : k < es.length) (x : Ev) : es.set k x = es.take k ++ x :: es.drop (k + 1) := by
  rw [List.set_eq_take_append_cons_drop, if_pos hk]
theorem not_self {es : List Ev} (R : RightP es) {e : Ev} (he : e ∈ es) : ¬ hs e.c e := fun h => by
  have := up_high R he he h
  omega
theorem spoilt_high {es : List Ev} (R : RightP es) {k : Nat} (hk : k < es.length) {x : Ev} (hx : x = { Ev.nth es k with h := (Ev.nth es k).h + 1 }) : ¬ RightP (es.set k x) := fun S => by
  rw [set_split hk] at S
  have hes := split_at hk
  have he := nth_mem hk
  have hc : x.c = (Ev.nth es k).c := by rw [hx]
  have hxr : x.r = (Ev.nth es k).r ∧ x.n = (Ev.nth es k).n := by rw [hx]; exact ⟨rfl, rfl⟩
  have h1 := S.high x (by simp)
  have h0 := R.high _ he
  have hn := not_self R he
  have hnx : ¬ hs (Ev.nth es k).c x := by unfold hs; rw [hxr.1, hxr.2]; exact hn
  have h2 : hgt (es.take k ++ x :: es.drop (k + 1)) (Ev.nth es k).c = hgt es (Ev.nth es k).c := hgt_eq fun y hy => by
    have hyx : y ≠ x := fun q => hnx (by rw [← q]; exact hy)
    have hye : y ≠ Ev.nth es k := fun q => hn (by rw [q] at hy; exact hy)
    constructor
    · intro h
      rw [hes]
      simp only [List.mem_append, List.mem_cons, hyx, false_or] at h
      simp only [List.mem_append, List.mem_cons, hye, false_or]
      exact h
    · intro h
      rw [hes] at h
      simp only [List.mem_append, List.mem_cons, hye, false_or] at h
      simp only [List.mem_append, List.mem_cons, hyx, false_or]
      exact h
  have hxh : x.h = (Ev.nth es k).h + 1 := by rw [hx]
  rw [hc, h2, ← h0] at h1
  omega
theorem spoilt_num {es : List Ev} (R : RightP es) {k : Nat} (hk : k < es.length) {x : Ev} (hx : x = { Ev.nth es k with n := (Ev.nth es k).n + 1 }) : ¬ RightP (es.set k x) := fun S => by
  rw [set_split hk] at S
  have h1 := ((Ev.good_iff _).1 (R.may _ (nth_mem hk))).own
  have h2 := ((Ev.good_iff x).1 (S.may x (by simp))).own
  rw [hx] at h2
  simp only at h2
  rw [h1] at h2
  omega
theorem spoilt_ctx {es : List Ev} {k : Nat} (hk : k < es.length) {q : Nat} (hq : q < 5) {x : Ev} (hx : x = { Ev.nth es k with c := (Ev.nth es k).c.set q (1 + es.length) }) : ¬ RightP (es.set k x) := fun S => by
  have hm : x ∈ es.set k x := by rw [set_split hk]; simp
  have hc : x.c.get q = 1 + es.length := by rw [hx]; simp only; rw [get_set _ _ _ _ hq, if_pos rfl]
  have h1 := Al.row_le (q : Int) (1 + es.length) (tally (es.set k x)) (fun j a b => by
    obtain ⟨s, k1, k2, k3, _⟩ := S.seen x hm q hq j (by omega) (by rw [hc]; omega)
    have := (isIn_tally (es.set k x) q j).2 ⟨s, k1, k2, k3, by simp [Ck.rep]; omega⟩
    exact this)
  have h2 := tally_length (es.set k x)
  rw [List.length_set] at h2
  omega
theorem spoilt_twice {es : List Ev} {e : Ev} (he : e ∈ es) : ¬ RightP (es ++ [e]) := fun S => by
  have h := S.one
  unfold One at h
  rw [List.pairwise_append] at h
  exact h.2.2 e he e (by simp) rfl
def need (es : List Ev) (e : Ev) (i : Nat) : Bool := (es.take i).any fun y => Ck.has y.c e.r e.n
theorem need_succ {es : List Ev} (e : Ev) {i : Nat} (hi : i < es.length) : need es e (i + 1) = (need es e i || Ck.has (Ev.nth es i).c e.r e.n) := by
  unfold need
  rw [List.take_succ_eq_append_getElem hi, List.any_append]
  simp [Ev.nth, hi]
theorem without {es : List Ev} (R : RightP es) {k : Nat} (hk : k < es.length) : right (es.take k ++ es.drop (k + 1)) = !need es (Ev.nth es k) es.length := by
  have hes := split_at hk
  have he := nth_mem hk
  have hone : One (es.take k ++ Ev.nth es k :: es.drop (k + 1)) := by rw [← hes]; exact R.one
  have hmem : ∀ y, y ∈ es ↔ y ∈ es.take k ++ es.drop (k + 1) ∨ y = Ev.nth es k := fun y => by
    have : y ∈ es ↔ y ∈ es.take k ++ Ev.nth es k :: es.drop (k + 1) := by rw [← hes]
    rw [this]
    simp only [List.mem_append, List.mem_cons]
    constructor
    · rintro (h | h | h)
      · exact .inl (.inl h)
      · exact .inr h
      · exact .inl (.inr h)
    · rintro ((h | h) | h)
      · exact .inl h
      · exact .inr (.inr h)
      · exact .inr (.inl h)
  have h1 : One (es.take k ++ es.drop (k + 1)) := List.Pairwise.sublist (List.Sublist.append_left (List.sublist_cons_self _ _) _) hone
  have hnd : need es (Ev.nth es k) es.length = true ↔ ∃ y ∈ es, hs y.c (Ev.nth es k) := by
    unfold need
    rw [List.take_length, List.any_eq_true]
  cases hn : need es (Ev.nth es k) es.length with
  | false =>
    rw [Bool.not_false, right_iff]
    refine right_closed R (fun e h => (hmem e).2 (.inl h)) h1 (fun y hy s hs' hh => ?_)
    rcases (hmem s).1 hs' with h | h
    · exact h
    · rw [h] at hh
      have := hnd.2 ⟨y, (hmem y).2 (.inl hy), hh⟩
      rw [hn] at this; cases this
  | true =>
    rw [Bool.not_true, ← Bool.not_eq_true, right_iff]
    intro S
    obtain ⟨y, hy, hh⟩ := hnd.1 hn
    have hyD : y ∈ es.take k ++ es.drop (k + 1) := by
      rcases (hmem y).1 hy with h | h
      · exact h
      · rw [h] at hh; exact absurd hh (not_self R he)
    have g := (has_iff _ _ _).1 hh
    obtain ⟨r, hr, hr5⟩ : ∃ r : Nat, (Ev.nth es k).r = r ∧ r < 5 := ⟨(Ev.nth es k).r.toNat, by omega, by omega⟩
    have g2 := (hs_at hr5 hr).1 hh
    obtain ⟨s, k1, k2, k3, _⟩ := S.seen y hyD r hr5 _ g2.1 g2.2
    have hne : s.mk' ≠ (Ev.nth es k).mk' := by
      unfold One at hone
      rw [List.pairwise_append] at hone
      rcases List.mem_append.1 k1 with h | h
      · exact hone.2.2 s h _ (by simp)
      · rw [List.pairwise_cons] at hone
        exact fun q => hone.2.1.1 s h q.symm
    exact hne ((Mk.ext_iff' _ _).2 ⟨by show s.r = (Ev.nth es k).r; omega, k3⟩)
end Pst
/-! a cell of a row of the call's own, stored -/
theorem own_set {w : World} {B e sz n cap g : Nat} {xs : List Value} (h : w.ownsRow B e sz (.slice (some ⟨g, 0, none⟩) n cap) n xs) {j : Nat} (v : Value) :
    (w.setCell ⟨g, j, none⟩ v).ownsRow B e sz (.slice (some ⟨g, 0, none⟩) n cap) n (xs.set j v) := by
  refine ⟨by rw [List.length_set]; exact h.1, ?_⟩
  rcases h.2 with ⟨q, _⟩ | ⟨g', cap', cur, q, hg, hgg, hc, hm, hs, ht⟩
  · cases q
  · injection q with q1 _ q3
    injection q1 with q1
    injection q1 with q1 _ _
    subst q1 q3
    refine .inr ⟨g, cap, cur.setIfInBounds j v, rfl, hg, ?_, hc, hm, by simpa using hs, ?_⟩
    · have hb : g < w.heap.size := by
        rcases Nat.lt_or_ge g w.heap.size with k | k
        · exact k
        · rw [Array.getElem?_eq_none k] at hgg; cases hgg
      simp [World.setCell, Array.getElem?_modify, hgg]
    · have h1 : xs.length = n * sz := h.1
      rw [Array.toList_setIfInBounds, List.take_set, ht]
theorem own_at {w : World} {B e sz n cap g : Nat} {xs : List Value} (h : w.ownsRow B e sz (.slice (some ⟨g, 0, none⟩) n cap) n xs) {j : Nat} {v : Value} (hv : xs[j]? = some v) : w.cell? ⟨g, j, none⟩ = some v ∧ w.frozen? ⟨g, j, none⟩ = false := by
  rcases h.2 with ⟨q, _⟩ | ⟨g', cap', cur, q, hg, hgg, hc, hm, hs, ht⟩
  · cases q
  · injection q with q1 _ q3
    injection q1 with q1
    injection q1 with q1 _ _
    subst q1 q3
    have h1 : cur[j]? = some v := by
      rw [← ht, List.getElem?_take] at hv
      split at hv
      · simpa using hv
      · cases hv
    exact ⟨by simp [World.cell?, hgg, h1], by simp [World.frozen?, hgg]⟩
/-- The block of a row of the call's own that is not empty. -/
theorem own_blk {w : World} {B e sz n : Nat} {v : Value} {xs : List Value} (h : w.ownsRow B e sz v n xs) (h0 : 0 < n) : ∃ g cap, v = .slice (some ⟨g, 0, none⟩) n cap ∧ B ≤ g ∧ n ≤ cap := by
  rcases h.2 with ⟨_, q⟩ | ⟨g, cap, cur, q, hg, _, hc, _⟩
  · omega
  · exact ⟨g, cap, q, hg, hc⟩
theorem evc_set : ∀ (es : List Ev) (k : Nat) (x : Ev) (i : Nat) (v : Value), k < es.length → i < 12 → x.cells.toList = (Ev.nth es k).cells.toList.set i v → (evc es).set (k * 12 + i) v = evc (es.set k x)
  | [], k, _, _, _, h, _, _ => by simp at h
  | e :: es, 0, x, i, v, _, hi, hx => by
    rw [evc, List.set_cons_zero, evc, Nat.zero_mul, Nat.zero_add, List.set_append_left _ _ (by rw [Ev.cells_len]; exact hi)]
    have hx' : x.cells.toList = e.cells.toList.set i v := hx
    rw [hx']
  | e :: es, k + 1, x, i, v, h, hi, hx => by
    rw [evc, List.set_cons_succ, evc, List.set_append_right _ _ (by rw [Ev.cells_len]; omega), Ev.cells_len, show (k + 1) * 12 + i - 12 = k * 12 + i by omega,
      evc_set es k x i v (by simpa using h) hi hx]
end Go.Proofs.Ythgfbnkggdlokaa
