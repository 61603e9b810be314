/-
  Writes of one field by replicas apart from each other, plain: which one is shown.
-/
import Derived.Test.YtolpfchnfhdhkaaLaws9A
namespace Go.Proofs.Ytolpfchnfhdhkaa
open Go.RowKit
set_option maxRecDepth 100000
set_option maxRecDepth 100000

namespace Wr
def ctx (r k : Nat) : Ck := if r = 0 then ⟨(k : Int) + 1, 0, 0, 0, 0⟩ else (⟨1, 0, 0, 0, 0⟩ : Ck).set r k
def vl (r k : Nat) : ByteArray := ⟨#[UInt8.ofNat (97 + r), UInt8.ofNat (48 + k)]⟩
def ev (r k : Nat) : Ev := ⟨r, if r = 0 then (k : Int) + 2 else (k : Int) + 1, ctx r k, (k : Int) + 2, 3, Bk.cy, 0, vl r k⟩
def evs (r m : Nat) : List Ev := (List.range m).map (ev r)
def wrs (n : Nat → Nat) (r : Nat) : List Ev := (List.range r).flatMap fun q => evs q (n q)
def lst (n : Nat → Nat) (r : Nat) : List Ev := Bk.e1 :: wrs n r
/-- Who wrote most often, the greatest of them; and how often. -/
def bh (n : Nat → Nat) : Nat → Int × Nat
  | 0 => (-1, 0)
  | r + 1 => if (bh n r).2 ≤ n r ∧ 0 < n r then (r, n r) else bh n r
theorem wrs_succ (n : Nat → Nat) (r : Nat) : wrs n (r + 1) = wrs n r ++ evs r (n r) := by simp [wrs, List.range_succ]
theorem evs_succ (r m : Nat) : evs r (m + 1) = evs r m ++ [ev r m] := by simp [evs, List.range_succ]
theorem mem_wrs {n : Nat → Nat} {R : Nat} {x : Ev} : x ∈ wrs n R ↔ ∃ r k, r < R ∧ k < n r ∧ x = ev r k := by
  simp only [wrs, evs, List.mem_flatMap, List.mem_map, List.mem_range]
  constructor
  · rintro ⟨r, hr, k, hk, rfl⟩; exact ⟨r, k, hr, hk, rfl⟩
  · rintro ⟨r, k, hr, hk, rfl⟩; exact ⟨r, hr, k, hk, rfl⟩
/-- What the fold knows. -/
theorem bh_spec (n : Nat → Nat) : ∀ R, (∀ r, r < R → n r ≤ (bh n R).2) ∧ (∀ r, r < R → 0 < n r → n r = (bh n R).2 → (r : Int) ≤ (bh n R).1) ∧
    (((bh n R).1 = -1 ∧ (bh n R).2 = 0) ∨ ∃ b : Nat, b < R ∧ (bh n R).1 = b ∧ (bh n R).2 = n b ∧ 0 < n b)
  | 0 => ⟨fun r h => by omega, fun r h => by omega, .inl ⟨rfl, rfl⟩⟩
  | R + 1 => by
    obtain ⟨h1, h2, h3⟩ := bh_spec n R
    unfold bh
    split
    · rename_i hc
      refine ⟨fun r hr => ?_, fun r hr _ _ => ?_, .inr ⟨R, by omega, rfl, rfl, hc.2⟩⟩
      · rcases Nat.lt_succ_iff_lt_or_eq.1 hr with h | rfl
        · exact Nat.le_trans (h1 r h) hc.1
        · exact Nat.le_refl _
      · show (r : Int) ≤ R
        omega
    · rename_i hc
      refine ⟨fun r hr => ?_, fun r hr h0 he => ?_, ?_⟩
      · rcases Nat.lt_succ_iff_lt_or_eq.1 hr with h | rfl
        · exact h1 r h
        · by_cases q : 0 < n r
          · omega
          · omega
      · rcases Nat.lt_succ_iff_lt_or_eq.1 hr with h | rfl
        · exact h2 r h h0 he
        · omega
      · rcases h3 with h | ⟨b, hb, q⟩
        · exact .inl h
        · exact .inr ⟨b, by omega, q⟩
end Wr
namespace Bk
theorem of_k (k : Int) (e : Ev) : (Tg.of k e).k = k := by
  unfold Tg.of
  split
  · rfl
  · split <;> rfl
theorem seen_none {es : List Ev} {t : Tg} (h : ∀ y ∈ es, Tg.of y.k y ≠ t) : seen es t = Ck.zero := by
  unfold seen
  generalize Ck.zero = c
  induction es generalizing c with
  | nil => rfl
  | cons y es ih =>
    rw [List.foldl_cons, if_neg (h y (by simp))]
    exact ih (fun z hz => h z (by simp [hz])) c
theorem has_zero (r n : Int) : Ck.has Ck.zero r n = false := by
  unfold Ck.has
  rw [Bool.and_eq_false_iff]
  right
  have : Ck.zero.get r.toNat = 0 := by
    unfold Ck.get Ck.zero
    split <;> rfl
  rw [this]
  simp
  omega
theorem under_none {es : List Ev} {k : Int} (h : ∀ y ∈ es, y.k ≠ k) (e : Ev) : underC es k e = false := by
  unfold underC
  rw [seen_none fun y hy q => h y hy (by have := congrArg Tg.k q; rwa [of_k, of_k] at this), has_zero]
theorem first_skip {es pre : List Ev} {key : ByteArray} (h : ∀ y ∈ pre, ¬ isFirst es y) (c : Ck) : pre.foldl (fun c x => if isFirst es x ∧ x.key = key then begun c x else c) c = c := by
  induction pre generalizing c with
  | nil => rfl
  | cons y pre ih =>
    rw [List.foldl_cons, if_neg (fun q => h y (by simp) q.1)]
    exact ih (fun z hz => h z (by simp [hz])) c
theorem nub_const {x : ByteArray} : ∀ {l : List ByteArray}, l ≠ [] → (∀ y ∈ l, y = x) → nub l = [x]
  | [], h, _ => absurd rfl h
  | [y], _, h => by
    obtain rfl := h y (by simp)
    rfl
  | y :: z :: l, _, h => by
    have ih := nub_const (l := z :: l) (by simp) (fun q hq => h q (List.mem_cons_of_mem _ hq))
    have hy := h y (by simp)
    subst hy
    unfold nub
    rw [ih]
    simp
/-- The value of a field is that of an event that none is behind. -/
theorem field_of {xs : List Ev} {x : Ev} (hx : x ∈ xs) (h1 : ∀ y ∈ xs, Stp.less x.stp y.stp = false) (h2 : ∀ y ∈ xs, y.stp = x.stp → y.v = x.v) : has xs = true ∧ field xs = x.v := by
  have hl : 0 < (stamps xs).length := by
    have : xs ≠ [] := fun e => by rw [e] at hx; cases hx
    rw [stamps, List.length_map]
    exact List.length_pos_iff.2 this
  obtain ⟨k, hk, hlast, hmx, _⟩ := Stp.last_spec hl
  have hkx : k < xs.length := by simpa [stamps] using hk
  have hnth : ∀ j, (hj : j < xs.length) → Stp.nth (stamps xs) j = (xs[j]).stp := fun j hj => by
    rw [Stp.nth_lt (by simpa [stamps] using hj)]
    simp [stamps]
  have hm : Stp.mx (stamps xs) = x.stp := by
    refine Stp.mx_eq ?_ fun j hj => ?_
    · obtain ⟨i, hi, e⟩ := List.mem_iff_getElem.1 hx
      exact ⟨i, by simpa [stamps] using hi, by rw [hnth i hi, e]⟩
    · rw [hnth j (by simpa [stamps] using hj)]
      exact h1 _ (List.getElem_mem _)
  have hv := h2 (xs[k]) (List.getElem_mem _) (by rw [← hnth k hkx, hmx, hm])
  unfold has field
  rw [hlast]
  refine ⟨by simp, ?_⟩
  rw [if_pos (by omega)]
  show (vals xs).getD k ⟨#[]⟩ = x.v
  rw [← hv]
  unfold vals
  rw [List.getD, List.getElem?_map, List.getElem?_eq_getElem hkx]; rfl
end Bk
namespace Wr
variable {n : Nat → Nat} {R : Nat}
theorem kinds {x : Ev} (h : x ∈ lst n R) : x.k = 1 ∨ x.k = 3 := by
  rcases List.mem_cons.1 h with rfl | h
  · exact .inl rfl
  · obtain ⟨r, k, _, _, rfl⟩ := mem_wrs.1 h
    exact .inr rfl
theorem no2 (e : Ev) : Bk.underC (lst n R) 2 e = false := Bk.under_none (fun y hy => by rcases kinds hy with h | h <;> omega) e
theorem cnt1 : Bk.cnt (lst n R) Bk.e1 = true := by
  unfold Bk.cnt
  rw [if_pos (show Bk.e1.k = 1 from rfl), no2]; rfl
theorem first1 : Bk.first (lst n R) (lst n R) Bk.cy = ⟨1, 0, 0, 0, 0⟩ := by
  unfold Bk.first
  have h1 : Bk.isFirst (lst n R) Bk.e1 := ⟨rfl, no2 _, by decide, by decide, by decide⟩
  show (Bk.e1 :: wrs n R).foldl _ Ck.zero = _
  rw [List.foldl_cons, if_pos (show Bk.isFirst (lst n R) Bk.e1 ∧ Bk.e1.key = Bk.cy from ⟨h1, rfl⟩), Bk.first_skip fun y hy q => ?_]
  · rfl
  · obtain ⟨r, k, _, _, rfl⟩ := mem_wrs.1 hy
    have := q.1
    simp [ev] at this
theorem cnt3 (r k : Nat) : Bk.cnt (lst n R) (ev r k) = true := by
  unfold Bk.cnt
  rw [if_neg (show ¬ (ev r k).k = 1 by simp [ev]), if_pos (show (ev r k).k = 3 from rfl)]
  show Bk.standC (Bk.first (lst n R) (lst n R) Bk.cy) (ev r k) = true
  rw [first1]
  have h0 : 1 ≤ (ctx r k).c0 := by
    unfold ctx
    split
    · show 1 ≤ (k : Int) + 1; omega
    · rename_i h
      simp [Ck.set]
      rw [if_neg h]
      omega
  have : Ck.has (ev r k).c 0 1 = true := by
    show Ck.has (ctx r k) 0 1 = true
    unfold Ck.has
    simp [Ck.rep, Ck.get]
    exact h0
  unfold Bk.standC
  simp [this]
theorem keys1 : Bk.keys (lst n R) = [Bk.cy] := by
  unfold Bk.keys
  have hf : (lst n R).filter (Bk.cnt (lst n R)) = lst n R := by
    rw [List.filter_eq_self]
    intro x hx
    rcases List.mem_cons.1 hx with rfl | hx
    · exact cnt1
    · obtain ⟨r, k, hr, _, rfl⟩ := mem_wrs.1 hx
      exact cnt3 r k
  rw [hf, Bk.nub_const (x := Bk.cy) (by simp [lst]) (fun y hy => ?_), Bk.sortS_one]
  obtain ⟨x, hx, rfl⟩ := List.mem_map.1 hy
  rcases List.mem_cons.1 hx with rfl | hx
  · rfl
  · obtain ⟨r, k, hr, _, rfl⟩ := mem_wrs.1 hx
    rfl
theorem fl0 : Bk.fl (lst n R) (lst n R) Bk.cy 0 = wrs n R := by
  unfold Bk.fl
  show (Bk.e1 :: wrs n R).filter _ = _
  rw [List.filter_cons_of_neg (by rw [Bk.isW_iff]; rintro ⟨_, h, _⟩; simp [Bk.e1] at h), List.filter_eq_self]
  intro x hx
  obtain ⟨r, k, hr, _, rfl⟩ := mem_wrs.1 hx
  rw [Bk.isW_iff]
  exact ⟨cnt3 r k, rfl, rfl, rfl, by omega⟩
theorem fl1 : Bk.fl (lst n R) (lst n R) Bk.cy 1 = [] := by
  unfold Bk.fl
  rw [List.filter_eq_nil_iff]
  intro x hx q
  rw [Bk.isW_iff] at q
  rcases List.mem_cons.1 hx with rfl | hx
  · exact absurd q.2.1 (by decide)
  · obtain ⟨r, k, hr, _, rfl⟩ := mem_wrs.1 hx
    exact absurd q.2.2.2.1 (by simp [ev])
theorem al0 (l : Nat) : Bk.al (lst n R) (lst n R) Bk.cy l = [] := by
  unfold Bk.al
  rw [List.filter_eq_nil_iff]
  intro x hx q
  rw [Bk.isW_iff] at q
  rcases kinds hx with h | h <;> omega
/-- What is shown. -/
def fieldOf (p : Int × Nat) : ByteArray := if p.1 < 0 then ⟨#[]⟩ else vl p.1.toNat (p.2 - 1)
theorem shown : Bk.book (lst n R) = [⟨Bk.cy, decide (0 ≤ (bh n R).1), false, fieldOf (bh n R), ⟨#[]⟩, [], []⟩] := by
  have hb : Bk.has (wrs n R) = decide (0 ≤ (bh n R).1) ∧ Bk.field (wrs n R) = fieldOf (bh n R) := by
    obtain ⟨h1, h2, h3⟩ := bh_spec n R
    rcases h3 with ⟨h4, h5⟩ | ⟨b, hb, h4, h5, h6⟩
    · have hw : wrs n R = [] := by
        rw [List.eq_nil_iff_forall_not_mem]
        intro x hx
        obtain ⟨r, k, hr, hk, _⟩ := mem_wrs.1 hx
        have := h1 r hr
        omega
      rw [hw]
      refine ⟨?_, ?_⟩
      · rw [h4]; rfl
      · unfold fieldOf; rw [h4]; rfl
    · have hx : ev b (n b - 1) ∈ wrs n R := mem_wrs.2 ⟨b, n b - 1, hb, by omega, rfl⟩
      obtain ⟨q1, q2⟩ := Bk.field_of hx (fun y hy => by
        obtain ⟨r, k, hr, hk, rfl⟩ := mem_wrs.1 hy
        rw [Stp.less_not]
        show ¬ (((n b - 1 : Nat) : Int) + 2 < (k : Int) + 2 ∨ ((n b - 1 : Nat) : Int) + 2 = (k : Int) + 2 ∧ (b : Int) < r)
        have a1 := h1 r hr
        have a2 := h2 r hr (by omega)
        rintro (h | ⟨h, h'⟩)
        · omega
        · have := a2 (by omega)
          omega) (fun y hy he => by
        obtain ⟨r, k, hr, hk, rfl⟩ := mem_wrs.1 hy
        rw [Stp.ext_iff'] at he
        have e1 : (k : Int) + 2 = ((n b - 1 : Nat) : Int) + 2 := he.1
        have e2 : (r : Int) = b := he.2
        obtain rfl : r = b := by omega
        obtain rfl : k = n r - 1 := by omega
        rfl)
      refine ⟨by rw [q1, h4]; simp, ?_⟩
      rw [q2]
      unfold fieldOf
      rw [h4, h5, if_neg (by omega)]
      rfl
  unfold Bk.book
  rw [keys1]
  show [Bk.ct (lst n R) Bk.cy] = _
  unfold Bk.ct
  rw [fl0, fl1, al0, al0, Bk.set_nil, hb.1, hb.2]
  rfl
end Wr
end Go.Proofs.Ytolpfchnfhdhkaa
