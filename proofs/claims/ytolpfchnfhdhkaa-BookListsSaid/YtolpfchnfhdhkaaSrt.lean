/-
  slices.Sort and slices.Compact at a row of texts of the call's own.
-/
import Derived.Test.YtolpfchnfhdhkaaShf
import Derived.Test.YtolpfchnfhdhkaaBkp
import Derived.Sort.OwnSorted
namespace Go.Proofs.Ytolpfchnfhdhkaa
open Go.RowKit Go.Sort
set_option maxRecDepth 100000
set_option maxRecDepth 100000

namespace Bk
def oct (s : ByteArray) : List UInt8 := s.data.toList
def toStr (l : List UInt8) : ByteArray := ⟨l.toArray⟩
theorem toStr_oct (s : ByteArray) : toStr (oct s) = s := by simp [toStr, oct]
theorem oct_toStr (l : List UInt8) : oct (toStr l) = l := by simp [toStr, oct]
def strV (xs : List ByteArray) : List Value := xs.map .string
/-- Texts, rising. -/
def sortS (xs : List ByteArray) : List ByteArray := ((xs.map oct).mergeSort fun x y => decide (x ≤ y)).map toStr
/-- Texts, those left out that stand behind themselves. -/
def compS (xs : List ByteArray) : List ByteArray := (Lib.compact (xs.map oct)).map toStr
theorem enc_oct (xs : List ByteArray) : (xs.map oct).map encStr = strV xs := by
  simp only [strV, List.map_map]
  apply List.map_congr_left
  intro s _
  show Value.string ⟨(oct s).toArray⟩ = .string s
  rw [show (⟨(oct s).toArray⟩ : ByteArray) = s from toStr_oct s]
theorem enc_str (ls : List (List UInt8)) : ls.map encStr = strV (ls.map toStr) := by
  simp only [strV, List.map_map]
  rfl
theorem sortS_len (xs : List ByteArray) : (sortS xs).length = xs.length := by simp [sortS]
end Bk

theorem sort_any (B : Nat) (v : Value) (xs : List ByteArray) (w : World) (hown : w.ownsRow B 9 1 v xs.length (Bk.strV xs)) (hn : xs.length ≤ 1000000) :
    Calls Try.prog 102 #[v] w fun x w' => x = .returned (.tuple #[]) ∧ w'.ownsRow B 9 1 v xs.length (Bk.strV (Bk.sortS xs)) ∧ w.grownBy w' v.ownBlock := by
  rcases hown.2 with ⟨rfl, h0⟩ | ⟨g, cap, cur, rfl, hb, hgg, hnc, hcm, hcs, htake⟩
  · have hx : xs = [] := List.eq_nil_of_length_eq_zero h0
    subst hx
    refine (AnyM.slices_Sort_string_none Try.shfSort none 0 w).mono ?_
    rintro x w' ⟨rfl, rfl⟩
    exact ⟨rfl, by simpa [Bk.sortS, Bk.strV] using hown, ⟨rfl, rfl, rfl, Nat.le_refl _, fun _ _ _ => rfl⟩⟩
  · have hl : (xs.map Bk.oct).length = xs.length := by simp
    have ht : cur.toList.take (xs.map Bk.oct).length = (xs.map Bk.oct).map encStr := by rw [hl, Bk.enc_oct, ← htake, Nat.mul_one]
    have hg : g < w.heap.size := (Array.getElem?_eq_some_iff.1 hgg).1
    have := AnyM.slices_Sort_string Try.shfSort g 0 cap (xs.map Bk.oct) w (holds_of_block hgg ht) hg (by rw [hl]; omega)
    rw [hl] at this
    refine Calls.mono (f := 102) this ?_
    rintro x w' ⟨rfl, n, os, rfl⟩
    refine ⟨rfl, ?_, grownBy_sorted _⟩
    have h1 := ownsRow_sorted (w := w) (base := B) (g := g) (cap := cap) (n := n) (os := os) (ss := xs.map Bk.oct) (ts := (xs.map Bk.oct).mergeSort fun x y => decide (x ≤ y)) (by simp) hb hgg (by rw [hl]; exact hnc) hcm hcs
    rw [hl, Bk.enc_str] at h1
    exact h1
theorem comp_any (B : Nat) (v : Value) (xs : List ByteArray) (w : World) (hown : w.ownsRow B 9 1 v xs.length (Bk.strV xs)) (hn : xs.length ≤ 1000000) :
    Calls Try.prog 105 #[v] w fun x w' => ∃ A cap, x = .returned (.slice A (Bk.compS xs).length cap) ∧ Sl w' 1 A (Bk.compS xs).length cap (Bk.strV (Bk.compS xs)) ∧ (∀ a, A = some a → v.ownBlock = some a.block) ∧ w.grownBy w' v.ownBlock := by
  rcases hown.2 with ⟨rfl, h0⟩ | ⟨g, cap, cur, rfl, hb, hgg, hnc, hcm, hcs, htake⟩
  · have hx : xs = [] := List.eq_nil_of_length_eq_zero h0
    subst hx
    refine (AnyG.slices_Compact_string_empty Try.shfCompact none 0 w).mono ?_
    rintro x w' ⟨rfl, rfl⟩
    exact ⟨none, 0, rfl, Sl.none _ _, fun a h => (by cases h), ⟨rfl, rfl, rfl, Nat.le_refl _, fun _ _ _ => rfl⟩⟩
  · have hl : (xs.map Bk.oct).length = xs.length := by simp
    have ht : cur.toList.take (xs.map Bk.oct).length = (xs.map Bk.oct).map encStr := by rw [hl, Bk.enc_oct, ← htake, Nat.mul_one]
    have hg : g < w.heap.size := (Array.getElem?_eq_some_iff.1 hgg).1
    have := AnyG.slices_Compact_string Try.shfCompact g 0 cap (xs.map Bk.oct) w (holds_of_block hgg ht) (by rw [hl]; omega) (by rw [hl]; exact hnc)
    rw [hl] at this
    refine Calls.mono (f := 105) this ?_
    have hcl : (Bk.compS xs).length = (Lib.compact (xs.map Bk.oct)).length := by simp [Bk.compS]
    have hle : (Lib.compact (xs.map Bk.oct)).length ≤ xs.length := by
      unfold Lib.compact Lib.compactUpTo
      rw [List.length_map]
      refine Nat.le_trans (List.length_filter_le _ _) ?_
      simp
    rintro x w' ⟨rfl, q, rfl⟩
    have hgr : w.grownBy (putRow encStr (Sort.ahead w q) g 0 (Lib.compact (xs.map Bk.oct) ++ List.replicate (xs.length - (Lib.compact (xs.map Bk.oct)).length) []).toArray) (some g) := by
      have := grownBy_sorted (w := w) (g := g) (n := q) (os := #[]) (Lib.compact (xs.map Bk.oct) ++ List.replicate (xs.length - (Lib.compact (xs.map Bk.oct)).length) []).toArray
      simpa using this
    refine ⟨some ⟨g, 0, none⟩, cap, by rw [hcl], ?_, fun a h => (by cases h; rfl), hgr⟩
    have h1 := ownsRow_sorted (w := w) (base := B) (g := g) (cap := cap) (n := q) (os := #[]) (ss := xs.map Bk.oct) (ts := Lib.compact (xs.map Bk.oct) ++ List.replicate (xs.length - (Lib.compact (xs.map Bk.oct)).length) []) (by simp; omega) hb hgg (by rw [hl]; exact hnc) hcm hcs
    rw [hl, Bk.enc_str, grow_empty] at h1
    obtain ⟨A', cap', e1, hsl⟩ := Sl.of_own h1
    injection e1 with e2 e3 e4
    subst e2 e4
    have hT := hsl.take (u := (Bk.compS xs).length) (by omega)
    have he : (Bk.strV ((Lib.compact (xs.map Bk.oct) ++ List.replicate (xs.length - (Lib.compact (xs.map Bk.oct)).length) []).map Bk.toStr)).take ((Bk.compS xs).length * 1) = Bk.strV (Bk.compS xs) := by
      unfold Bk.strV
      rw [Nat.mul_one, ← List.map_take, List.map_append, hcl]
      congr 1
      rw [List.take_append_of_le_length (by simp)]
      unfold Bk.compS
      rw [List.take_of_length_le (by simp)]
    rw [he] at hT
    exact hT
end Go.Proofs.Ytolpfchnfhdhkaa
