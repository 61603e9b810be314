/-
  slices.Sorted(maps.Keys(m)) at a map of texts of the call's own.
-/
import Derived.Test.YtolpfchnfhdhkaaCtc
import Derived.Sort.KeysCollected
namespace Go.Proofs.Ytolpfchnfhdhkaa
open Go.RowKit Go.Sort Go.Maps Go.Shelf
set_option maxRecDepth 100000
set_option maxRecDepth 100000

theorem shf_sorts (m : Nat) : AnyZ.SortsIn Try.prog Try.shfSorted_ren Fence.wide m :=
  ⟨fun blk off cap ss W hH hblk hsz => callsIn_wide.2 (AnyM.slices_Sort_string Try.shfSort blk off cap ss W hH hblk hsz),
   fun p cap W => callsIn_wide.2 (AnyM.slices_Sort_string_none Try.shfSort p cap W)⟩
theorem keys_any (mb : Option Nat) (W : World) : Calls Try.prog 66 #[.map mb] W fun e w' => e = .returned (.func (.func 103) #[] #[.pointer (some ⟨W.heap.size, 0, none⟩)]) ∧ w' = W.alloc (.cells #[.map mb] 90) :=
  (callsIn_wide (n := 5)).1 (AnyZ.keys_in Try.shfKeys Fence.wide 5 trivial rfl mb W)
def Rk : Value → Option (DataW Unit × List MemPlace) := fun _ => some (.lit (.bool true), [])
def kb : Value → List UInt8
  | .string s => Bk.oct s
  | _ => []
theorem owns_of {w : World} {m : Nat} {L : List (ByteArray × Nat)} (hM : Gm strKey w m (L.map fun x => (x.1, Value.pointer (some ⟨x.2, 0, none⟩)))) (hk : ∀ x ∈ L, x.1.size ≤ maxLen) (hn : L.length ≤ 1000000) :
    ∃ D0 : DataW Unit, w.ownsMap Try.prog 9 Rk m L.length D0 ∧ (strKeys D0).Perm (L.map fun x => Bk.oct x.1) ∧ Maps.size D0 = L.length := by
  obtain ⟨es, n, hb, he, hst⟩ := hM
  have hlen : es.size = L.length := by have := congrArg List.length he; simpa using this
  have hke : es.toList.map (·.key) = L.map fun x => Value.string x.1 := by
    have := congrArg (List.map Prod.fst) he
    simpa [List.map_map, Function.comp_def, strKey] using this
  have hkey : ∀ x ∈ es.toList, ∃ s : ByteArray, x.key = .string s ∧ s.size ≤ maxLen := fun x hx => by
    have : x.key ∈ L.map fun x => Value.string x.1 := by rw [← hke]; exact List.mem_map.2 ⟨x, hx, rfl⟩
    obtain ⟨y, hy, e⟩ := List.mem_map.1 this
    exact ⟨y.1, e.symm, hk y hy⟩
  have hrd : ∀ x ∈ es.toList, WideElems.rd Try.prog 9 Rk x = some (.string (kb x.key), .lit (.bool true)) := fun x hx => by
    obtain ⟨s, e, hs⟩ := hkey x hx
    unfold WideElems.rd
    rw [e, Go.WideMaps.keyOf_string_mk Try.underlying9 hs]
    rfl
  refine ⟨.map ((es.toList.map (WideElems.rg Try.prog 9 Rk)).foldr DataW.insert []), ⟨es, n, hb, ⟨by rw [hlen]; simp only [maxLen]; omega, hst, fun x hx => ⟨_, hrd x hx⟩⟩, by omega, rfl⟩, ?_, ?_⟩
  · show (((es.toList.map (WideElems.rg Try.prog 9 Rk)).foldr DataW.insert []).map fun p => strOf p.1).Perm _
    refine ((Go.WideShapes.sorted_perm _).map _).trans ?_
    have : (es.toList.map (WideElems.rg Try.prog 9 Rk)).map (fun p => strOf p.1) = L.map fun x => Bk.oct x.1 := by
      rw [List.map_map]
      have h1 : es.toList.map ((fun p => strOf p.1) ∘ WideElems.rg Try.prog 9 Rk) = (es.toList.map (·.key)).map kb := by
        rw [List.map_map]
        apply List.map_congr_left
        intro x hx
        show strOf (WideElems.rg Try.prog 9 Rk x).1 = kb x.key
        unfold WideElems.rg
        rw [hrd x hx]
        rfl
      rw [h1, hke, List.map_map]
      rfl
    rw [this]
  · show ((es.toList.map (WideElems.rg Try.prog 9 Rk)).foldr DataW.insert []).length = _
    rw [(Go.WideShapes.sorted_perm _).length_eq, List.length_map]
    simpa using hlen
theorem sorted_any (w : World) (m : Nat) (L : List (ByteArray × Nat)) (hM : Gm strKey w m (L.map fun x => (x.1, Value.pointer (some ⟨x.2, 0, none⟩)))) (hk : ∀ x ∈ L, x.1.size ≤ maxLen) (hn : L.length ≤ 1000000) :
    Calls Try.prog 65 #[.func (.func 103) #[] #[.pointer (some ⟨w.heap.size, 0, none⟩)]] (w.alloc (.cells #[.map (some m)] 90)) fun e w' => ∃ v, e = .returned v ∧
      w'.ownsRow w.heap.size 9 1 v L.length (Bk.strV (Bk.sortS (L.map (·.1)))) ∧ Lex.Up w w' := by
  obtain ⟨D0, hown, hp, hz⟩ := owns_of hM hk hn
  have hbl := hown.lt
  have hseq : SeqGives Fence.wide 2 Try.prog 103 #[.pointer (some ⟨w.heap.size, 0, none⟩)] encStr (fun ss => ss.Perm (strKeys D0)) (Maps.size D0) (w.alloc (.cells #[.map (some m)] 90)) :=
    AnyZ.keys_gives (ρ := Try.shfKeys_ren) { Try.shfKeys with } Fence.wide _ trivial rfl (by omega) w.heap.size m L.length D0 _ (by simp) (by simp) (by
      obtain ⟨es, clock, hb, Ft, hs, hD⟩ := hown
      exact ⟨es, clock, (Below.heap_alloc _ _ m hbl).trans hb, Ft, hs, hD⟩)
  have key := (callsIn_wide (n := 5)).1 (AnyZ.sorted_in Try.shfSorted Fence.wide 5 trivial trivial trivial trivial rfl (by omega) (shf_sorts _) (enters_of Try.func102 (by kernel_rfl) rfl) 103 #[.pointer (some ⟨w.heap.size, 0, none⟩)] trivial (enters_of Try.func103 (by kernel_rfl) rfl) _ _ (by rw [hz]; simp only [maxLen]; omega) (by rw [hz]; omega) _ hseq)
  refine Calls.mono (f := 65) key ?_
  rintro e w' ⟨v, ss, rfl, hS, hrow, hnil, hb⟩
  have hpp : ss.Perm ((L.map (·.1)).map Bk.oct) := by rw [List.map_map]; exact hS.trans hp
  have hl : ss.length = L.length := by have := hpp.length_eq; simpa using this
  have hU : Lex.Up w (w.alloc (.cells #[.map (some m)] 90)) := (Below.refl _ _).alloc (Nat.le_refl _) _
  refine ⟨v, rfl, ?_, Below.trans hU (hb.mono hU.size)⟩
  have hm := mergeSort_of_perm hpp
  have h2 : (ss.mergeSort fun x y => decide (x ≤ y)).map encStr = Bk.strV (Bk.sortS (L.map (·.1))) := by
    rw [show (ss.mergeSort fun x y => decide (x ≤ y)) = ss.mergeSort leB from rfl, hm, Bk.enc_str]
    rfl
  rw [h2, hl] at hrow
  refine ⟨hrow.1, ?_⟩
  rcases hrow.2 with h3 | ⟨g, cap, cur, e1, e2, e3⟩
  · exact .inl h3
  · exact .inr ⟨g, cap, cur, e1, by simp at e2; omega, e3⟩
end Go.Proofs.Ytolpfchnfhdhkaa
