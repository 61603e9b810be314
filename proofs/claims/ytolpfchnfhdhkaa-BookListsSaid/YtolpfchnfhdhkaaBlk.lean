/-
  A block of the call's own known whole; a world that gets a name.
-/
import Derived.Test.YtolpfchnfhdhkaaChecked
import Derived.WalkKit
import Derived.OwnWalk
import Derived.ProofKit
import Derived.Below
import Derived.Outline
import Derived.Handy
import Derived.Lib.Hide
import Derived.Deep.Draws
import Derived.Deep.QuietTactic
import Derived.BigQuiet
import Derived.Deep.RegionWith
import Derived.Deep.DrawnRows
import Derived.StillTailTactics
import Derived.Test.YtolpfchnfhdhkaaLex
namespace Go.Proofs.Ytolpfchnfhdhkaa
open Go.RowKit
set_option maxRecDepth 100000
theorem wp_named {P : Program} {c : Code} {Q : Exit → Act → World → Prop} {a : Act} {w : World} (h : ∀ W, W = w → c.wp P Q a W) : c.wp P Q a w := h w rfl
theorem below_dN {B : Nat} {a w : World} (h : Below B a w) (n : Nat) : Below B a (w.drewN n) := ⟨h.os, h.tape, h.output, h.size, h.block⟩
@[go_sem] theorem setCell_drewN (w : World) (n : Nat) (a : Addr) (v : Value) : (w.drewN n).setCell a v = (w.setCell a v).drewN n := rfl

/-- Block b holds just these cells, none of them frozen. -/
def Blk (w : World) (b : Nat) (cs : Array Value) (t : TypeId) : Prop := w.heap[b]? = some (.cells cs t)
namespace Blk
variable {w : World} {b : Nat} {cs : Array Value} {t : TypeId}
theorem lt (h : Blk w b cs t) : b < w.heap.size := by
  rcases Nat.lt_or_ge b w.heap.size with k | k
  · exact k
  · unfold Blk at h; rw [Array.getElem?_eq_none k] at h; cases h
theorem cell (h : Blk w b cs t) {j : Nat} {v : Value} (hj : cs[j]? = some v) : w.cell? ⟨b, j, none⟩ = some v := by
  unfold Blk at h; simp [World.cell?, h, hj]
theorem frozen (h : Blk w b cs t) (j : Nat) : w.frozen? ⟨b, j, none⟩ = false := by
  unfold Blk at h; simp [World.frozen?, h]
theorem up {w' : World} (h : Blk w b cs t) (hu : Lex.Up w w') : Blk w' b cs t := by
  have := hu.block b h.lt
  unfold Blk at *; rw [this]; exact h
theorem new (w : World) (cs : Array Value) (t : TypeId) : Blk (w.alloc (.cells cs t)) w.heap.size cs t := by
  unfold Blk; exact heap_alloc_new _ _
theorem alloc (h : Blk w b cs t) (o : Obj) : Blk (w.alloc o) b cs t := h.up ((Below.refl _ _).alloc (Nat.le_refl _) o)
theorem set (h : Blk w b cs t) (k : Nat) (v : Value) : Blk (w.setCell ⟨b, k, none⟩ v) b (cs.setIfInBounds k v) t := by
  unfold Blk at *
  have hb : b < w.heap.size := Blk.lt h
  simp [World.setCell, Array.getElem?_modify, h]
theorem other (h : Blk w b cs t) {p : Addr} (hp : b ≠ p.block) (v : Value) : Blk (w.setCell p v) b cs t := by
  unfold Blk at *
  rw [Below.heap_setCell w p v b hp]; exact h
theorem set2 {u v : Value} (h : Blk w b #[u, v] t) (x y : Value) : Blk ((w.setCell ⟨b, 0, none⟩ x).setCell ⟨b, 1, none⟩ y) b #[x, y] t := (h.set 0 x).set 1 y
theorem other2 (h : Blk w b cs t) {p q : Addr} (hp : b ≠ p.block) (hq : b ≠ q.block) (u v : Value) : Blk ((w.setCell p u).setCell q v) b cs t := (h.other hp u).other hq v
theorem set4 {a0 a1 a2 a3 : Value} (h : Blk w b #[a0, a1, a2, a3] t) (x y z u : Value) : Blk ((((w.setCell ⟨b, 0, none⟩ x).setCell ⟨b, 1, none⟩ y).setCell ⟨b, 2, none⟩ z).setCell ⟨b, 3, none⟩ u) b #[x, y, z, u] t := (((h.set 0 x).set 1 y).set 2 z).set 3 u
theorem dN (h : Blk w b cs t) (n : Nat) : Blk (w.drewN n) b cs t := h
end Blk

/-- What the call owns stays so while the world grows. -/
theorem own_up {w w' : World} {B e sz n : Nat} {v : Value} {xs : List Value} (h : w.ownsRow B e sz v n xs) (hu : Lex.Up w w') : w'.ownsRow B e sz v n xs := by
  refine ⟨h.1, ?_⟩
  rcases h.2 with h2 | ⟨g, cap, cur, hv, hg, hgg, r⟩
  · exact Or.inl h2
  · have hlt : g < w.heap.size := by
      rcases Nat.lt_or_ge g w.heap.size with k | k
      · exact k
      · rw [Array.getElem?_eq_none k] at hgg; cases hgg
    exact Or.inr ⟨g, cap, cur, hv, hg, by rw [hu.block g hlt]; exact hgg, r⟩

/-- A slice value of elements of sz cells, whose cells are these. -/
def Sl (w : World) (sz : Nat) (A : Option Addr) (n cap : Nat) (cs : List Value) : Prop :=
  cs.length = n * sz ∧ n ≤ cap ∧ cap ≤ 9223372036854775807 ∧ (0 < n → ∃ b off, A = some ⟨b, off, none⟩ ∧ b < w.heap.size ∧ ∀ j u, cs[j]? = some u → w.cell? ⟨b, off + j, none⟩ = some u)
namespace Sl
variable {w : World} {sz : Nat} {A : Option Addr} {n cap : Nat} {cs : List Value}
theorem below {B : Nat} {w' : World} (h : Sl w sz A n cap cs) (hB : w.heap.size ≤ B) (hb : Below B w w') : Sl w' sz A n cap cs := by
  obtain ⟨hl, hc, hm, hcell⟩ := h
  refine ⟨hl, hc, hm, fun h0 => ?_⟩
  obtain ⟨b, off, e, hbl, hcl⟩ := hcell h0
  exact ⟨b, off, e, Nat.lt_of_lt_of_le hbl hb.size, fun j u hu => (hb.cell (p := ⟨b, off + j, none⟩) (Nat.lt_of_lt_of_le hbl hB)).trans (hcl j u hu)⟩
theorem up {w' : World} (h : Sl w sz A n cap cs) (hb : Lex.Up w w') : Sl w' sz A n cap cs := h.below (Nat.le_refl _) hb
theorem none (w : World) (sz : Nat) : Sl w sz none 0 0 [] := ⟨by simp, Nat.le_refl _, by decide, fun h => by omega⟩
theorem empty (w : World) (sz : Nat) (A : Option Addr) (cap : Nat) (hc : cap ≤ 9223372036854775807) : Sl w sz A 0 cap [] := ⟨by simp, Nat.zero_le _, hc, fun h => by omega⟩
theorem take (h : Sl w sz A n cap cs) {u : Nat} (hu : u ≤ n) : Sl w sz A u cap (cs.take (u * sz)) := by
  obtain ⟨hl, hc, hm, hcell⟩ := h
  have : u * sz ≤ n * sz := Nat.mul_le_mul_right _ hu
  refine ⟨by rw [List.length_take]; omega, by omega, hm, fun h0 => ?_⟩
  obtain ⟨b, off, e, hb, hcl⟩ := hcell (by omega)
  refine ⟨b, off, e, hb, fun j u hu => hcl j u ?_⟩
  rw [List.getElem?_take] at hu
  split at hu
  · exact hu
  · cases hu
theorem drop {b off : Nat} (h : Sl w sz (some ⟨b, off, Option.none⟩) n cap cs) {u : Nat} (hu : u ≤ n) : Sl w sz (some ⟨b, off + u * sz, Option.none⟩) (n - u) (cap - u) (cs.drop (u * sz)) := by
  obtain ⟨hl, hc, hm, hcell⟩ := h
  refine ⟨by rw [List.length_drop, hl, Nat.sub_mul], by omega, by omega, fun h0 => ?_⟩
  obtain ⟨b', off', e, hb, hcl⟩ := hcell (by omega)
  obtain ⟨rfl, rfl⟩ : b = b' ∧ off = off' := by simpa using e
  refine ⟨b, off + u * sz, rfl, hb, fun j v hv => ?_⟩
  rw [List.getElem?_drop] at hv
  have := hcl _ _ hv
  rwa [← Nat.add_assoc] at this
/-- What the call made reads as its cells. -/
theorem of_own {B e : Nat} {v : Value} (h : w.ownsRow B e sz v n cs) : ∃ A cap, v = .slice A n cap ∧ Sl w sz A n cap cs := by
  have hl : cs.length = n * sz := h.1
  rcases h.2 with ⟨rfl, h0⟩ | ⟨g, cap', cur, rfl, hb, hg, hnc, hcm, hcs, htake⟩
  · subst h0
    exact ⟨_, _, rfl, by simp at hl; rw [hl]; simp, Nat.le_refl _, by decide, fun h => by omega⟩
  · refine ⟨_, _, rfl, hl, hnc, by simp only [maxLen] at hcm; omega, fun _ => ⟨g, 0, rfl, ?_, fun j u hu => ?_⟩⟩
    · rcases Nat.lt_or_ge g w.heap.size with h | h
      · exact h
      · rw [Array.getElem?_eq_none h] at hg; cases hg
    · have := h.cells (g := g) rfl j u hu
      have hadd : (⟨g, 0, Option.none⟩ : Addr).add j = ⟨g, 0 + j, Option.none⟩ := by unfold Addr.add; split <;> simp_all
      rwa [hadd] at this
/-- A new array of the call's own, looked at as a slice. -/
theorem of_blk {g : Nat} {t : TypeId} (h : Blk w g cs.toArray t) (hl : cs.length = n * sz) (hm : n ≤ 9223372036854775807) : Sl w sz (some ⟨g, 0, Option.none⟩) n n cs :=
  ⟨hl, Nat.le_refl _, hm, fun _ => ⟨g, 0, rfl, h.lt, fun j u hu => by rw [Nat.zero_add]; exact h.cell (by simpa using hu)⟩⟩
end Sl
end Go.Proofs.Ytolpfchnfhdhkaa
