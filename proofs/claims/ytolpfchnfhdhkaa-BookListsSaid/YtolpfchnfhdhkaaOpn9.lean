/-
  A slice of events that is handed in, opened.
-/
import Derived.Test.YtolpfchnfhdhkaaEvSl
import Derived.Test.YtolpfchnfhdhkaaOpn6
import Derived.Deep.SlicePairs
namespace Go.Proofs.Ytolpfchnfhdhkaa
open Go.RowKit Go.ChangeShapes Go.WideShapes Go.Deep
set_option maxRecDepth 100000
section
variable {H : Type} {enc : TypeId × Value → H} {w : World} {base : Nat} {spare : Nat → Bool} {held : Bool} {r : Reach} {b0 : Nat} {v : Value} {d : DataW H} {p : List MemPlace}

theorem weights_all {P : Program} {e : TypeId} {m : Nat} {x : DataW H} : ∀ {xs : List (DataW H)}, x ∈ xs → m ∈ x.weights P e → m ∈ DataW.weightsAll P e xs
  | y :: ys, hx, hm => by
    rw [DataW.weightsAll, List.mem_append]
    rcases List.mem_cons.1 hx with rfl | hx
    · exact .inl hm
    · exact .inr (weights_all hx hm)
instance : Inhabited Ev := ⟨Ev.zero⟩
/-- A slice of events, by its one cell. -/
theorem open_evs {fuel : Nat} {c : Value} {y : DataW H × List MemPlace} (hf : DataW.trod enc Try.prog w base spare held fuel 22 [c] = some y) :
    ∃ A n cap es, c = .slice A n cap ∧ EvSl w A n cap es ∧ ∀ e ∈ es, ∀ m ∈ (evDat H e).weights Try.prog 39, m ∈ y.1.weights Try.prog 22 := by
  rcases open_slice Try.underlying22 hf with ⟨hc, _⟩ | ⟨a, len, cap, m, n, D, Pl, hc, _, hl, hm, hmm, hy, hx⟩
  · simp only [List.cons.injEq, and_true] at hc
    subst hc
    exact ⟨none, 0, 0, [], rfl, EvSl.none w, fun e he => by cases he⟩
  · simp only [List.cons.injEq, and_true] at hc
    subst hc
    have hlm : len ≤ m := by rw [hmm]; split <;> omega
    have c12 : Try.prog.cellsOf 39 = 12 := by kernel_rfl
    have each : ∀ i, i < len → ∃ x : Ev, (∀ j, j < 12 → w.cell? ((a.add (i * 12)).add j) = x.cells.toList[j]?) ∧ D i = evDat H x := fun i hi => by
      obtain ⟨cs', h1, h2⟩ := hx i (by omega)
      rw [c12] at h1
      obtain ⟨_, hlen, hcell⟩ := World.cells?_some h1
      obtain ⟨x, e1, e2⟩ := open_ev_cells hlen h2
      subst e1
      exact ⟨x, fun j hj => hcell j hj, e2⟩
    obtain ⟨q, hq⟩ := choose_lt each
    have hnth : ∀ i, i < len → Ev.nth ((List.range len).map q) i = q i := fun i hi => by simp [Ev.nth, hi]
    refine ⟨some a, len, cap, (List.range len).map q, rfl, ⟨by rw [evc_len]; simp, hl, by simp only [maxLen] at hm; omega, fun h0 => ?_⟩, fun e he m' hm' => ?_⟩
    · obtain ⟨b, off, sp⟩ := a
      have h00 := (hq 0 h0).1 0 (by omega)
      have h00' : w.cell? (((⟨b, off, sp⟩ : Addr).add (0 * 12)).add 0) = some (.int .i64 (q 0).r) := h00
      have hsp : sp = none := by simpa [Addr.add] using World.cell?_spot h00'
      subst hsp
      have hlt := World.block_lt_of_cell? w _ h00'
      have hadd : ∀ b off j, (⟨b, off, none⟩ : Addr).add j = ⟨b, off + j, none⟩ := fun b off j => by unfold Addr.add; split <;> simp_all
      refine ⟨b, off, rfl, by simpa [hadd] using hlt, fun j u hu => ?_⟩
      have hj : j < len * 12 := by
        rcases Nat.lt_or_ge j (len * 12) with h | h
        · exact h
        · rw [List.getElem?_eq_none (by rw [evc_len]; simpa using h)] at hu; cases hu
      have hi : j / 12 < len := by omega
      have hc := (hq (j / 12) hi).1 (j % 12) (by omega)
      rw [hadd, hadd, show off + j / 12 * 12 + j % 12 = off + j by omega] at hc
      rw [hc]
      have hv : ∃ v, (q (j / 12)).cells.toList[j % 12]? = some v := ⟨_, List.getElem?_eq_getElem (by rw [Ev.cells_len]; omega)⟩
      obtain ⟨v, hv⟩ := hv
      have := evc_nth ((List.range len).map q) (j / 12) (by simpa using hi) (j % 12) v (by omega) (by rw [hnth _ hi]; exact hv)
      rw [show j / 12 * 12 + j % 12 = j by omega, hu] at this
      rw [hv, ← this]
    · obtain ⟨i, hi, rfl⟩ := List.mem_map.1 he
      have hi' : i < len := by simpa using hi
      have hD : evDat H (q i) ∈ (List.range len).map D := List.mem_map.2 ⟨i, hi, (hq i hi').2⟩
      rw [hy]
      simp only [DataW.weights, Try.underlying22, List.mem_cons, List.mem_append]
      exact .inr (.inl (weights_all hD hm'))
/-- Events that come in: in memory, with texts that memory bears. -/
theorem open_evs9 (hv : Value.okWide Try.prog w r b0 22 v) (h : DataW.Trod enc Try.prog w base spare held 22 v d p) {ts : List TypeId} {ds : List (DataW H)} (hz : (DataW.weightsEach Try.prog ts ds).all (· ≤ reachBytes) = true) {j : Nat} (ht : ts[j]? = some 22) (hd : ds[j]? = some d) :
    ∃ A n cap es, v = .slice A n cap ∧ EvSl w A n cap es ∧ ∀ e ∈ es, e.key.size ≤ 140737488351232 ∧ e.v.size ≤ 140737488351232 := by
  obtain ⟨a0, len0, cap0, rfl⟩ := okWide_slice Try.underlying22 hv
  obtain ⟨fuel, hf⟩ := h
  obtain ⟨A, n, cap, es, hc, hs, hw⟩ := open_evs (c := .slice a0 len0 cap0) (by simpa [Value.cells] using hf)
  refine ⟨A, n, cap, es, hc, hs, fun x hx => ?_⟩
  have len : ∀ s : ByteArray, s.data.toList.length = s.size := fun s => by rw [Array.length_toList]; rfl
  have h1 := List.all_eq_true.1 hz _ (DataW.weights_mem_each ht hd x.key.size (hw x hx _ (by simp [evDat, DataW.weights, DataW.weightsEach, Try.underlying39, len])))
  have h2 := List.all_eq_true.1 hz _ (DataW.weights_mem_each ht hd x.v.size (hw x hx _ (by simp [evDat, DataW.weights, DataW.weightsEach, Try.underlying39, len])))
  have : reachBytes = 140737488351232 := by decide
  simp only [decide_eq_true_eq, this] at h1 h2
  exact ⟨h1, h2⟩
end
end Go.Proofs.Ytolpfchnfhdhkaa
