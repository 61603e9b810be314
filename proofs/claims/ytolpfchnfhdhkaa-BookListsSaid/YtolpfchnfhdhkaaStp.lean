/-
  Stamps, plain: which one is less, which one is the latest, and where it stands.
-/
import Derived.Test.YtolpfchnfhdhkaaBlk
namespace Go.Proofs.Ytolpfchnfhdhkaa
open Go.RowKit
set_option maxRecDepth 100000

structure Stp where
  h : Int
  r : Int
deriving DecidableEq
namespace Stp
def val (s : Stp) : Value := .agg #[.int .i64 s.h, .int .i64 s.r]
def cells (s : Stp) : Array Value := #[.int .i64 s.h, .int .i64 s.r]
def less (a b : Stp) : Bool := decide (a.h < b.h) || (decide (a.h = b.h) && decide (a.r < b.r))
def nth (xs : List Stp) (j : Nat) : Stp := xs.getD j ⟨0, 0⟩
def flat (xs : List Stp) : List Value := xs.flatMap fun s => [.int .i64 s.h, .int .i64 s.r]
def mx : List Stp → Stp
  | [] => ⟨0, 0⟩
  | x :: xs => xs.foldl (fun m y => if less m y then y else m) x
def last (xs : List Stp) : Int := if xs = [] then -1 else (xs.findIdx (fun x => decide (x = mx xs)) : Nat)

theorem ext_iff' (a b : Stp) : a = b ↔ a.h = b.h ∧ a.r = b.r := by
  cases a; cases b; simp
theorem less_iff (a b : Stp) : less a b = true ↔ a.h < b.h ∨ a.h = b.h ∧ a.r < b.r := by simp [less]
theorem less_not (a b : Stp) : less a b = false ↔ ¬ (a.h < b.h ∨ a.h = b.h ∧ a.r < b.r) := by rw [← less_iff]; simp
theorem less_self (a : Stp) : less a a = false := by rw [less_not]; omega
theorem less_ne (a b : Stp) : (less a b != less b a) = decide (a ≠ b) := by
  have h1 := less_iff a b; have h2 := less_iff b a; have h3 := ext_iff' a b
  cases e1 : less a b <;> cases e2 : less b a <;> simp [e1, e2] at h1 h2 ⊢ <;> rw [h3] <;> omega
theorem less_trans {a b c : Stp} (h1 : less a b = true) (h2 : less b c = true) : less a c = true := by
  rw [less_iff] at *; omega
theorem not_less_trans {a b c : Stp} (h1 : less a b = false) (h2 : less b c = false) : less a c = false := by
  rw [less_not] at *; omega
theorem antisymm {a b : Stp} (h1 : less a b = false) (h2 : less b a = false) : a = b := by
  rw [less_not] at *; rw [ext_iff']; omega

theorem flat_length (xs : List Stp) : (flat xs).length = xs.length * 2 := by
  induction xs with
  | nil => rfl
  | cons x xs ih => simp [flat] at ih ⊢; omega
theorem flat_nth : ∀ (xs : List Stp) (k : Nat), k < xs.length → (flat xs)[k * 2]? = some (.int .i64 (nth xs k).h) ∧ (flat xs)[k * 2 + 1]? = some (.int .i64 (nth xs k).r)
  | [], k, h => by simp at h
  | x :: xs, 0, _ => ⟨rfl, rfl⟩
  | x :: xs, k + 1, h => by
    have := flat_nth xs k (by simpa using h)
    have e : flat (x :: xs) = .int .i64 x.h :: .int .i64 x.r :: flat xs := rfl
    rw [e, show (k + 1) * 2 = k * 2 + 1 + 1 by omega]
    simpa [nth] using this
theorem flat_append (xs ys : List Stp) : flat (xs ++ ys) = flat xs ++ flat ys := by simp [flat]
theorem flat_take : ∀ (xs : List Stp) (u : Nat), (flat xs).take (u * 2) = flat (xs.take u)
  | [], u => by simp [flat]
  | x :: xs, 0 => by simp [flat]
  | x :: xs, u + 1 => by
    have e : flat (x :: xs) = .int .i64 x.h :: .int .i64 x.r :: flat xs := rfl
    rw [e, show (u + 1) * 2 = u * 2 + 1 + 1 by omega, List.take_succ_cons, List.take_succ_cons, flat_take xs u]
    rfl
theorem flat_drop : ∀ (xs : List Stp) (u : Nat), (flat xs).drop (u * 2) = flat (xs.drop u)
  | [], u => by simp [flat]
  | x :: xs, 0 => by simp
  | x :: xs, u + 1 => by
    have e : flat (x :: xs) = .int .i64 x.h :: .int .i64 x.r :: flat xs := rfl
    rw [e, show (u + 1) * 2 = u * 2 + 1 + 1 by omega, List.drop_succ_cons, List.drop_succ_cons, flat_drop xs u]
    rfl

theorem nth_mem {xs : List Stp} {k : Nat} (h : k < xs.length) : nth xs k ∈ xs := by
  unfold nth; rw [List.getD_eq_getElem?_getD, List.getElem?_eq_getElem h]; simp
theorem mem_nth {xs : List Stp} {x : Stp} (h : x ∈ xs) : ∃ k, k < xs.length ∧ nth xs k = x := by
  obtain ⟨k, hk, rfl⟩ := List.getElem_of_mem h
  exact ⟨k, hk, by unfold nth; rw [List.getD_eq_getElem?_getD, List.getElem?_eq_getElem hk]; rfl⟩
theorem mx_snoc (xs : List Stp) (y : Stp) : mx (xs ++ [y]) = if xs = [] then y else if less (mx xs) y then y else mx xs := by
  cases xs with
  | nil => rfl
  | cons x xs =>
    rw [if_neg (by simp)]
    simp only [List.cons_append, mx, List.foldl_append, List.foldl_cons, List.foldl_nil]
    split <;> simp_all
theorem mx_take (xs : List Stp) (k : Nat) (h : k < xs.length) : mx (xs.take (k + 1)) = if k = 0 then nth xs k else if less (mx (xs.take k)) (nth xs k) then nth xs k else mx (xs.take k) := by
  rw [List.take_succ_eq_append_getElem h, mx_snoc]
  have e : xs[k] = nth xs k := by unfold nth; rw [List.getD_eq_getElem?_getD, List.getElem?_eq_getElem h]; rfl
  have e2 : xs.take k = [] ↔ k = 0 := by
    rw [List.take_eq_nil_iff]; constructor
    · rintro (h0 | h0)
      · exact h0
      · subst h0; simp at h
    · exact Or.inl
  simp only [e, e2]
theorem mx_ge (xs : List Stp) : ∀ k, k ≤ xs.length → ∀ j, j < k → less (mx (xs.take k)) (nth xs j) = false
  | 0, _, j, hj => by omega
  | k + 1, hk, j, hj => by
    have ih := mx_ge xs k (by omega)
    rw [mx_take xs k (by omega)]
    by_cases h0 : k = 0
    · obtain rfl : j = k := by omega
      rw [if_pos h0]; exact less_self _
    · rw [if_neg h0]
      rcases Nat.lt_or_ge j k with h | h
      · split
        · rename_i hl
          cases hq : less (nth xs k) (nth xs j)
          · rfl
          · have := less_trans hl hq; rw [ih j h] at this; cases this
        · exact ih j h
      · obtain rfl : j = k := by omega
        split
        · exact less_self _
        · rename_i hl; simpa using hl
theorem mx_in (xs : List Stp) : ∀ k, k ≤ xs.length → 0 < k → ∃ j, j < k ∧ mx (xs.take k) = nth xs j
  | 0, _, h => by omega
  | k + 1, hk, _ => by
    rw [mx_take xs k (by omega)]
    by_cases h0 : k = 0
    · exact ⟨k, by omega, by rw [if_pos h0]⟩
    · rw [if_neg h0]
      split
      · exact ⟨k, by omega, rfl⟩
      · obtain ⟨j, hj, e⟩ := mx_in xs k (by omega) (by omega)
        exact ⟨j, by omega, e⟩
theorem mx_max {xs : List Stp} {j : Nat} (h : j < xs.length) : less (mx xs) (nth xs j) = false := by
  have := mx_ge xs xs.length (Nat.le_refl _) j h
  rwa [List.take_length] at this
theorem mx_is {xs : List Stp} (h : 0 < xs.length) : ∃ j, j < xs.length ∧ mx xs = nth xs j := by
  have := mx_in xs xs.length (Nat.le_refl _) h
  rwa [List.take_length] at this
/-- None is greater: so it is the latest. -/
theorem mx_of {xs : List Stp} {i : Nat} (hi : i < xs.length) (h : ∀ j, j < xs.length → less (nth xs i) (nth xs j) = false) : nth xs i = mx xs := by
  obtain ⟨j, hj, e⟩ := mx_is (xs := xs) (by omega)
  exact antisymm (by rw [e]; exact h j hj) (mx_max hi)
theorem nth_lt {xs : List Stp} {k : Nat} (h : k < xs.length) : nth xs k = xs[k] := by
  unfold nth; rw [List.getD_eq_getElem?_getD, List.getElem?_eq_getElem h]; rfl
theorem last_nil : last [] = -1 := rfl
theorem last_eq {xs : List Stp} {k : Nat} (hk : k < xs.length) (h : nth xs k = mx xs) (hj : ∀ j, j < k → nth xs j ≠ mx xs) : last xs = k := by
  have hn : xs ≠ [] := by rintro rfl; simp at hk
  rw [last, if_neg hn]
  have : xs.findIdx (fun x => decide (x = mx xs)) = k := by
    rw [List.findIdx_eq hk]
    refine ⟨by simpa [nth_lt hk] using h, fun j hjk => ?_⟩
    have := hj j hjk
    rw [nth_lt (by omega)] at this
    simpa using this
  rw [this]
theorem last_spec {xs : List Stp} (h : 0 < xs.length) : ∃ k : Nat, k < xs.length ∧ last xs = k ∧ nth xs k = mx xs ∧ ∀ j, j < k → nth xs j ≠ mx xs := by
  obtain ⟨j, hj, e⟩ := mx_is h
  have hlt : xs.findIdx (fun x => decide (x = mx xs)) < xs.length := List.findIdx_lt_length_of_exists ⟨nth xs j, nth_mem hj, by simp [e]⟩
  refine ⟨_, hlt, ?_, ?_, fun j hj => ?_⟩
  · rw [last, if_neg (by rintro rfl; simp at h)]
  · have := List.findIdx_getElem (w := hlt)
    rw [nth_lt hlt]; simpa using this
  · have := List.not_of_lt_findIdx hj
    rw [nth_lt (by omega)]
    simpa using this
theorem mx_eq {xs : List Stp} {m : Stp} (h1 : ∃ i, i < xs.length ∧ nth xs i = m) (h2 : ∀ j, j < xs.length → less m (nth xs j) = false) : mx xs = m := by
  obtain ⟨i, hi, rfl⟩ := h1
  exact (mx_of hi h2).symm
theorem nth_left {xs ys : List Stp} {j : Nat} (h : j < xs.length) : nth (xs ++ ys) j = nth xs j := by
  unfold nth; simp only [List.getD_eq_getElem?_getD]; rw [List.getElem?_append_left h]
theorem nth_right {xs ys : List Stp} {j : Nat} (h : xs.length ≤ j) : nth (xs ++ ys) j = nth ys (j - xs.length) := by
  unfold nth; simp only [List.getD_eq_getElem?_getD]; rw [List.getElem?_append_right h]
/-- The latest of two rows is the later one of both. -/
theorem last_append {xs ys : List Stp} (hx : 0 < xs.length) (hy : 0 < ys.length) : last (xs ++ ys) = if less (mx xs) (mx ys) then xs.length + last ys else last xs := by
  obtain ⟨i, hi, e1, e2, e3⟩ := last_spec hx
  obtain ⟨k, hk, f1, f2, f3⟩ := last_spec hy
  have hlen : (xs ++ ys).length = xs.length + ys.length := by simp
  cases hl : less (mx xs) (mx ys)
  · rw [if_neg (by simp)]
    have hm : mx (xs ++ ys) = mx xs := by
      refine mx_eq ⟨i, by omega, by rw [nth_left hi, e2]⟩ fun j hj => ?_
      rcases Nat.lt_or_ge j xs.length with h | h
      · rw [nth_left h]; exact mx_max h
      · rw [nth_right h]; exact not_less_trans hl (mx_max (by omega))
    rw [e1]
    refine last_eq (k := i) (by omega) (by rw [hm, nth_left hi, e2]) fun j hj => ?_
    rw [hm, nth_left (by omega)]; exact e3 j hj
  · rw [if_pos rfl]
    have hm : mx (xs ++ ys) = mx ys := by
      refine mx_eq ⟨xs.length + k, by omega, by rw [nth_right (by omega), Nat.add_sub_cancel_left, f2]⟩ fun j hj => ?_
      rcases Nat.lt_or_ge j xs.length with h | h
      · rw [nth_left h]
        have h1 := mx_max h
        rw [less_not] at h1 ⊢; rw [less_iff] at hl; omega
      · rw [nth_right h]; exact mx_max (by omega)
    rw [f1, ← Int.natCast_add]
    refine last_eq (k := xs.length + k) (by omega) (by rw [hm, nth_right (by omega), Nat.add_sub_cancel_left, f2]) fun j hj => ?_
    rw [hm]
    rcases Nat.lt_or_ge j xs.length with h | h
    · rw [nth_left h]
      intro e
      have := mx_max h; rw [e] at this; rw [this] at hl; cases hl
    · rw [nth_right h]; exact f3 _ (by omega)
/-- None of the first k is later than i. -/
def topTo (xs : List Stp) (i k : Nat) : Bool := (List.range k).all fun j => !less (nth xs i) (nth xs j)
theorem topTo_succ (xs : List Stp) (i k : Nat) : topTo xs i (k + 1) = (topTo xs i k && !less (nth xs i) (nth xs k)) := by
  simp [topTo, List.range_succ]
theorem topTo_iff {xs : List Stp} {i : Nat} (hi : i < xs.length) : topTo xs i xs.length = true ↔ nth xs i = mx xs := by
  constructor
  · intro h
    refine mx_of hi fun j hj => ?_
    simp only [topTo, List.all_eq_true, List.mem_range] at h
    simpa using h j hj
  · intro h
    simp only [topTo, List.all_eq_true, List.mem_range]
    intro j hj
    rw [h, mx_max hj]; rfl
end Stp

set_option maxHeartbeats 400000 in
theorem less_any (a b : Stp) (w : World) : Calls Try.prog 58 #[a.val, b.val] w fun e w' => e = .returned (.bool (Stp.less a b)) ∧ Below w.heap.size w w' := by
  unfold Stp.val
  by_cases h : a.h = b.h
  · have e : Stp.less a b = decide (a.r < b.r) := by simp [Stp.less, h]
    rw [e]
    have E := Lib.hid e; clear e
    have d : (a.h == b.h) = true := by simpa using h
    go_enter Try.func58, Try.ntmps58
    go_wp2
    go_ret
    exact ⟨rfl, ((Below.refl _ _).alloc (Nat.le_refl _) _).alloc (by simp) _⟩
  · have e : Stp.less a b = decide (a.h < b.h) := by simp [Stp.less, h]
    rw [e]
    have E := Lib.hid e; clear e
    have d : (a.h == b.h) = false := by simpa using h
    go_enter Try.func58, Try.ntmps58
    go_wp2
    go_ret
    exact ⟨rfl, ((Below.refl _ _).alloc (Nat.le_refl _) _).alloc (by simp) _⟩
end Go.Proofs.Ytolpfchnfhdhkaa
