/-
  An array of integers that is handed in by value: opened and shut.
-/
import Derived.OpenShut
import Derived.WideShapes
import Derived.ChangeShapes
import Derived.ChangeSame
namespace Go.Proofs.Ytolpfchnfhdhkaa
open Go.ChangeShapes Go.WideShapes
section
variable {H : Type} {enc : TypeId × Value → H} {P : Program} {w : World} {base : Nat} {spare : Nat → Bool} {held : Bool} {t e : TypeId} {k : IntKind} {n : Nat}

theorem ints_of : ∀ (cs : List Value) (xs : List (DataW H × List MemPlace)) (m : Nat), xs.length = cs.length → P.underlying e = some (.int k) →
    (∀ (i : Nat), i < cs.length → DataW.trod enc P w base spare held m e ((cs.drop i).take 1) = xs[i]?) →
    ∃ zs : List Int, cs = zs.map (Value.int k) ∧ xs = zs.map (fun z => (DataW.lit (.int k z), [])) ∧ ∀ z ∈ zs, (Lit.int k z).wf = true
  | [], xs, m, hl, _, _ => by
    simp at hl; subst hl; exact ⟨[], rfl, rfl, by simp⟩
  | c :: cs, [], m, hl, _, _ => by simp at hl
  | c :: cs, x :: xs, m, hl, he, h => by
    have h0 := h 0 (by simp)
    simp at h0
    obtain ⟨z, hc, hx, hz⟩ := DataW.trod_int he h0
    obtain ⟨zs, rfl, rfl, hw⟩ := ints_of cs xs m (by simpa using hl) he fun i hi => by simpa using h (i + 1) (by simpa using hi)
    refine ⟨z :: zs, ?_, by rw [hx]; rfl, ?_⟩
    · simp at hc; rw [hc]; rfl
    · intro y hy
      rcases List.mem_cons.1 hy with rfl | hy
      · exact hz
      · exact hw y hy

theorem okWide_arr {r : Reach} {b0 : Nat} {v : Value} (ht : P.underlying t = some (.array n e)) (h : Value.okWide P w r b0 t v) : ∃ cs : Array Value, v = .agg cs ∧ cs.size = P.cellsOf t := by
  simp only [Value.okWide, ht] at h
  obtain ⟨cs, h1, h2, _⟩ := h
  exact ⟨cs, h1, h2⟩

theorem open_int_arr {r : Reach} {b0 : Nat} {v : Value} {d : DataW H} {p : List MemPlace} (ht : P.underlying t = some (.array n e)) (he : P.underlying e = some (.int k)) (h1 : P.cellsOf e = 1) (hn : P.cellsOf t = n)
    (hv : Value.okWide P w r b0 t v) (h : DataW.Trod enc P w base spare held t v d p) :
    ∃ zs : List Int, zs.length = n ∧ v = .agg (zs.map (Value.int k)).toArray ∧ d = .agg (zs.map fun z => .lit (.int k z)) ∧ p = [] ∧ ∀ z ∈ zs, (Lit.int k z).wf = true := by
  obtain ⟨cs, rfl, hsz⟩ := okWide_arr ht hv
  obtain ⟨fuel, hf⟩ := h
  obtain ⟨xs, m, _, hx, hl, hxl, hel⟩ := DataW.trod_array ht hf
  have hcl : cs.toList.length = n := by simp; omega
  obtain ⟨zs, hz, rfl, hw⟩ := ints_of (w := w) (enc := enc) (base := base) (spare := spare) (held := held) cs.toList xs m (by omega) he fun i hi => by
    have := hel i (by omega)
    simpa [h1, Value.cells] using this
  simp only [Prod.mk.injEq] at hx
  refine ⟨zs, by simpa using hxl, by rw [← hz], by rw [hx.1]; simp [Function.comp_def], ?_, hw⟩
  rw [hx.2]
  simp [List.flatMap_eq_nil_iff]

theorem mapM_ints (f : Nat → Option (DataW H × List MemPlace)) : ∀ (zs : List Int) (b : Nat), (∀ i z, zs[i]? = some z → f (b + i) = some (.lit (.int k z), [])) →
    (List.range' b zs.length).mapM f = some (zs.map fun z => (DataW.lit (.int k z), []))
  | [], b, _ => rfl
  | z :: zs, b, h => by
    have h0 := h 0 z rfl
    have ih := mapM_ints f zs (b + 1) fun i y hy => by
      have := h (i + 1) y (by simpa using hy)
      rwa [show b + (i + 1) = b + 1 + i by omega] at this
    rw [List.length_cons, List.range'_succ, List.mapM_cons, ← Nat.add_zero b, h0]
    simp only [Nat.add_zero]
    rw [ih]
    rfl

theorem shut_int_arr {zs : List Int} (ht : P.underlying t = some (.array n e)) (he : P.underlying e = some (.int k)) (h1 : P.cellsOf e = 1) (hn : P.cellsOf t = n) (hl : zs.length = n) (hw : ∀ z ∈ zs, (Lit.int k z).wf = true) :
    DataW.Trod enc P w base spare held t (.agg (zs.map (Value.int k)).toArray) (.agg (zs.map fun z => .lit (.int k z))) [] := by
  refine ⟨2, ?_⟩
  rw [DataW.trod_step]
  unfold DataW.trodStep
  simp only [ht, Value.cells]
  rw [if_pos (by rw [hn]; simpa using hl)]
  have hm := mapM_ints (H := H) (k := k) (fun i => DataW.trod enc P w base spare held 1 e (((zs.map (Value.int k)).drop (i * P.cellsOf e)).take (P.cellsOf e))) zs 0 fun i z hz => by
    have hi : i < zs.length := (List.getElem?_eq_some_iff.1 hz).1
    have hd : ((zs.map (Value.int k)).drop ((0 + i) * P.cellsOf e)).take (P.cellsOf e) = [.int k z] := by
      rw [h1, Nat.mul_one, Nat.zero_add, List.drop_eq_getElem_cons (by simpa using hi)]
      have := (List.getElem?_eq_some_iff.1 hz).2
      simp [this]
    rw [hd]
    simp [DataW.trod, he, hw z (List.mem_of_getElem? hz)]
  rw [← List.range_eq_range', hl] at hm

  rw [hm]
  simp [Function.comp_def, List.flatMap_eq_nil_iff]
end
end Go.Proofs.Ytolpfchnfhdhkaa
