/-
  One element appended to a row of the call's own, seen as a step that keeps the rest: where the row's block may change behind what it holds.
-/
import Derived.Test.YtolpfchnfhdhkaaLexX
import Derived.Test.YtolpfchnfhdhkaaDrw
namespace Go.Proofs.Ytolpfchnfhdhkaa
open Go.RowKit
set_option maxRecDepth 100000
set_option maxRecDepth 100000

/-- All is as it was but in the row's block behind the first n elements; and these new cells, once there, stay. -/
def RowUp (v : Value) (n sz : Nat) (e : TypeId) (ys : List Value) (w w' : World) : Prop :=
  w.grownBy w' v.ownBlock ∧ ∀ g cur, v.ownBlock = some g → w.heap[g]? = some (.cells cur e (0, 0)) → ∃ cur', w'.heap[g]? = some (.cells cur' e (0, 0)) ∧ cur'.size = cur.size ∧ (∀ i, i < n * sz → cur'[i]? = cur[i]?) ∧ (∀ i, i < ys.length → cur[n * sz + i]? = ys[i]? → cur'[n * sz + i]? = ys[i]?)
abbrev rowRel (v : Value) (n sz : Nat) (e : TypeId) (ys : List Value) : LexX.Rel where
  up := RowUp v n sz e ys
  refl := fun w => ⟨World.grownBy.refl w _, fun g cur _ h => ⟨cur, h, rfl, fun _ _ => rfl, fun _ _ h => h⟩⟩
  trans := fun {a b c} h1 h2 => ⟨by_trans h1.1 h2.1, fun g cur hg h => by
    obtain ⟨c1, a1, a2, a3, a4⟩ := h1.2 g cur hg h
    obtain ⟨c2, b1, b2, b3, b4⟩ := h2.2 g c1 hg a1
    exact ⟨c2, b1, b2.trans a2, fun i hi => (b3 i hi).trans (a3 i hi), fun i hi h => b4 i hi (a4 i hi h)⟩⟩
  drew := fun w => ⟨⟨rfl, rfl, rfl, Nat.le_refl _, fun _ _ _ => rfl⟩, fun g cur _ h => ⟨cur, h, rfl, fun _ _ => rfl, fun _ _ h => h⟩⟩
theorem rowup_of_up {v : Value} {n sz : Nat} {e : TypeId} {ys : List Value} {w w' : World} (h : Lex.Up w w') : RowUp v n sz e ys w w' :=
  ⟨by_up h _, fun g cur _ hg => ⟨cur, by rw [h.block g (Array.getElem?_eq_some_iff.1 hg).1]; exact hg, rfl, fun _ _ => rfl, fun _ _ h => h⟩⟩
theorem take_same {cur cur' : Array Value} {k : Nat} (h : ∀ i, i < k → cur'[i]? = cur[i]?) : cur'.toList.take k = cur.toList.take k := by
  apply List.ext_getElem?
  intro i
  rw [List.getElem?_take, List.getElem?_take]
  split
  · rename_i hi
    simpa using h i hi
  · rfl
theorem rowup_own {v : Value} {n sz B : Nat} {e : TypeId} {ys xs : List Value} {w w' : World} (h : RowUp v n sz e ys w w') (hown : w.ownsRow B e sz v n xs) : w'.ownsRow B e sz v n xs := by
  refine ⟨hown.1, ?_⟩
  rcases hown.2 with h2 | ⟨g, cap, cur, rfl, hb, hg, r1, r2, r3, r4⟩
  · exact .inl h2
  · obtain ⟨cur', a, b, c, d⟩ := h.2 g cur rfl hg
    exact .inr ⟨g, cap, cur', rfl, hb, a, r1, r2, by rw [b]; exact r3, by rw [← r4]; exact take_same c⟩
/-- What is known of the row with one element more. -/
def AppF (B : Nat) (e : TypeId) (sz n : Nat) (v : Value) (z : Nat) (xs ys : List Value) (v' : Value) (w : World) : Prop :=
  w.ownsRow B e sz v' (n + 1) (xs ++ ys) ∧ ∀ g, v'.ownBlock = some g → v.ownBlock = some g ∨ z ≤ g
theorem appF_up {v v' : Value} {n sz B z : Nat} {e : TypeId} {ys xs : List Value} {w w' : World} (hx : xs.length = n * sz) (hy : ys.length = sz) (h : RowUp v n sz e ys w w') (hf : AppF B e sz n v z xs ys v' w) : AppF B e sz n v z xs ys v' w' := by
  obtain ⟨hown, hs⟩ := hf
  refine ⟨⟨hown.1, ?_⟩, hs⟩
  rcases hown.2 with h2 | ⟨g, cap, cur, rfl, hb, hg, r1, r2, r3, r4⟩
  · exact .inl h2
  · by_cases hv : v.ownBlock = some g
    · obtain ⟨cur', a, b, c, d⟩ := h.2 g cur hv hg
      refine .inr ⟨g, cap, cur', rfl, hb, a, r1, r2, by rw [b]; exact r3, ?_⟩
      rw [← r4]
      refine take_same fun i hi => ?_
      rcases Nat.lt_or_ge i (n * sz) with h1 | h1
      · exact c i h1
      · have hi2 : i - n * sz < ys.length := by rw [hy]; rw [Nat.add_mul, Nat.one_mul] at hi; omega
        have hcur : cur[i]? = ys[i - n * sz]? := by
          have := congrArg (fun l => l[i]?) r4
          simp only [List.getElem?_take, if_pos hi] at this
          rw [List.getElem?_append_right (by omega), hx] at this
          simpa using this
        have := d (i - n * sz) hi2 (by rw [show n * sz + (i - n * sz) = i by omega]; exact hcur)
        rw [show n * sz + (i - n * sz) = i by omega] at this
        rw [this, hcur]
    · exact .inr ⟨g, cap, cur, rfl, hb, by rw [h.1.block g (Array.getElem?_eq_some_iff.1 hg).1 (fun e => hv e.symm)]; exact hg, r1, r2, r3, r4⟩
theorem append_row {P : Program} {t e : TypeId} {zv : Value} {sz bytes : Nat} (E : Elem P t e zv sz bytes) (w : World) (ty : TypeId) (B z : Nat) (v : Value) (n : Nat) (xs : List Value) (hown : w.ownsRow B e sz v n xs)
    (b c : Nat) (ys : List Value) (hy : ys.length = sz) (hsl : Sl w sz (some ⟨b, 0, none⟩) 1 c ys) (h1 : ∀ u ∈ ys, u.oneCell' = true)
    (h63 : n + 1 ≤ maxLen) (hbytes : (n + 1) * bytes ≤ 140737488355328) (hbase : B ≤ w.heap.size) (hz : z ≤ w.heap.size) :
    ∃ v' w', (Builtin.append_ #[t, t] ty #[v, .slice (some ⟨b, 0, none⟩) 1 c]).run P w = .ok v' w' ∧ RowUp v n sz e ys w w' ∧ AppF B e sz n v z xs ys v' w' := by
  obtain ⟨i0, hi, hz0, hz1, hz2⟩ := info_parts E.info
  have hl : ys.length = 1 * sz := by omega
  have hnews : ∀ j u, ys[j]? = some u → w.cell? ((⟨b, 0, none⟩ : Addr).add j) = some u := fun j u hu => by
    obtain ⟨b', off, e1, _, h2⟩ := hsl.2.2.2 (by omega)
    obtain ⟨rfl, rfl⟩ : b = b' ∧ 0 = off := by simpa using e1
    have hadd : (⟨b, 0, none⟩ : Addr).add j = ⟨b, 0 + j, none⟩ := by unfold Addr.add; split <;> simp_all
    rw [hadd]
    exact h2 j u hu
  obtain ⟨v', w', hr, k1, k2, k3⟩ := append_sep E w ty B v n xs hown ⟨b, 0, none⟩ 1 c ys hl hnews h1 h63 hbytes hbase
  refine ⟨v', w', hr, ⟨k2, fun g cur hg hcur => ?_⟩, k1, fun g hg => (k3 g hg).imp id (fun h => Nat.le_trans hz h)⟩
  rcases hown.2 with ⟨rfl, _⟩ | ⟨g0, cap, cur0, rfl, hb, hgg, hnc, hcm, hcs, htake⟩
  · cases hg
  · simp [Value.ownBlock] at hg
    subst hg
    rw [hgg] at hcur
    injection hcur with hcur
    injection hcur with hcur
    subst hcur
    subst hz1
    subst hz2
    by_cases hroom : n + 1 ≤ cap
    · have hfit : n * i0.size + ys.length ≤ cur0.size := by rw [hl, hcs, ← Nat.add_mul]; exact Nat.mul_le_mul_right _ hroom
      have hr2 := run_append_room (P := P) w t ty e i0 E.ut hi g0 n cap cur0 hgg ⟨b, 0, none⟩ 1 c ys hl hnews h1 hroom hfit
      rw [hr] at hr2
      injection hr2 with e1 e2
      subst e2
      refine ⟨_, setRow_heap w g0 cur0 _ e _ hgg, ?_, fun i hi => ?_, fun i hi _ => ?_⟩
      · simp only [List.size_toArray, List.length_append, List.length_take, List.length_drop, Array.length_toList]
        omega
      · have hsz : n * i0.size ≤ cur0.size := by omega
        simp only [List.getElem?_toArray]
        rw [List.append_assoc, List.getElem?_append_left (by simp; omega), List.getElem?_take, if_pos hi]
        simp
      · have hsz : n * i0.size ≤ cur0.size := by omega
        simp only [List.getElem?_toArray]
        rw [List.append_assoc, List.getElem?_append_right (by simp; omega)]
        rw [List.getElem?_append_left (by simp; omega)]
        congr 1
        simp
        omega
    · have holds : ∀ j u, xs[j]? = some u → w.cell? ((⟨g0, 0, none⟩ : Addr).add j) = some u := hown.cells (g := g0) rfl
      have hr2 := run_append_grow (P := P) w t ty e i0 zv E.ut hi hz0 ⟨g0, 0, none⟩ n cap xs hown.1 holds ⟨b, 0, none⟩ 1 c ys hl hnews (by omega) (by simp only [maxLen] at h63; omega) (growslice_fits (by omega) hbytes)
      rw [hr] at hr2
      injection hr2 with e1 e2
      subst e2
      exact ⟨cur0, (Below.heap_alloc w.drew _ g0 (Array.getElem?_eq_some_iff.1 hgg).1).trans hgg, rfl, fun _ _ => rfl, fun _ _ h => h⟩
end Go.Proofs.Ytolpfchnfhdhkaa
