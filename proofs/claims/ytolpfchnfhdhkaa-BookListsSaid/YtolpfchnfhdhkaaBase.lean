/-
  What serves every layer: bytes in memory as lists of numbers, what a call returns, what came in.
-/
import Derived.Test.YtolpfchnfhdhkaaChecked
import Derived.WalkKit
import Derived.OwnWalk
import Derived.ProofKit
import Derived.Below
import Derived.Outline
import Derived.Handy
import Derived.Lib.Hide
import Derived.Laws.BytesArg
import Derived.Deep.Draws
import Derived.Deep.QuietTactic
import Derived.BigQuiet
import Derived.Deep.RegionWith
import Derived.Deep.DrawnRows
namespace Go.Proofs.Ytolpfchnfhdhkaa
open Go.RowKit
set_option maxRecDepth 100000
namespace Pl
/-- Byte j, 0 behind the end. -/
def nth (xs : List Nat) (j : Nat) : Nat := xs.getD j 0
theorem nth_take (xs : List Nat) (u j : Nat) : nth (xs.take u) j = if j < u then nth xs j else 0 := by
  unfold nth
  simp only [List.getD_eq_getElem?_getD, List.getElem?_take]
  split <;> simp
theorem lt_of_nth {xs : List Nat} (h : ∀ j, nth xs j < 256) : ∀ x ∈ xs, x < 256 := fun x hx => by
  obtain ⟨j, hj, rfl⟩ := List.getElem_of_mem hx
  have := h j
  simpa [nth, hj] using this
end Pl

def bv (x : Nat) : Value := .int .u8 (x : Int)
/-- The call returns a new slice of just these bytes. -/
def RetBytes (w : World) (xs : List Nat) (e : Ending) (w' : World) : Prop :=
  ∃ A cap, e = .returned (.slice A xs.length cap) ∧ w'.ownsRow w.heap.size 5 1 (.slice A xs.length cap) xs.length (xs.map bv) ∧ Below w.heap.size w w'
theorem own_form {w : World} {B : Nat} {t : TypeId} {v : Value} {n : Nat} {xs : List Value} (h : w.ownsRow B t 1 v n xs) : ∃ A cap, v = .slice A n cap := by
  rcases h.2 with ⟨rfl, rfl⟩ | ⟨g, cap, cur, rfl, _⟩
  · exact ⟨_, _, rfl⟩
  · exact ⟨_, _, rfl⟩

theorem info5 : (Try.prog.info? 5).map (fun i => (i.zero, i.size, i.bytes)) = some (some (.int .u8 0), 1, 1) := by kernel_rfl

theorem new_cells (w : World) (xs : List Value) (t : TypeId) (j : Nat) (u : Value) (h : xs[j]? = some u) : (w.alloc (.cells xs.toArray t)).cell? ((⟨w.heap.size, 0, none⟩ : Addr).add j) = some u := by
  have hadd : (⟨w.heap.size, 0, none⟩ : Addr).add j = ⟨w.heap.size, j, none⟩ := by unfold Addr.add; split <;> simp_all
  rw [hadd, World.cell?_alloc_at _ _ _ _ rfl]
  simpa using h
theorem one_cell (x : Int) : ∀ u ∈ [Value.int .u8 x], u.oneCell' = true := by simp [Value.oneCell']
/-- A slice value with these bytes in it: its address is asked for only where there is one. -/
def Slc (w : World) (A : Option Addr) (n cap : Nat) (xs : List Nat) : Prop :=
  xs.length = n ∧ n ≤ cap ∧ cap ≤ 9223372036854775807 ∧ (∀ j, Pl.nth xs j < 256) ∧ (0 < n → ∃ b off, A = some ⟨b, off, none⟩ ∧ b < w.heap.size ∧ ∀ j, j < n → w.cell? ⟨b, off + j, none⟩ = some (bv (Pl.nth xs j)))

/-- What the call made reads as its bytes. -/
theorem slc_of_own {w : World} {B : Nat} {A : Option Addr} {cap : Nat} {xs : List Nat} (h : w.ownsRow B 5 1 (.slice A xs.length cap) xs.length (xs.map bv)) (hx : ∀ x ∈ xs, x < 256) : Slc w A xs.length cap xs := by
  have h255 : ∀ j, Pl.nth xs j < 256 := fun j => by
    unfold Pl.nth
    rw [List.getD_eq_getElem?_getD]
    by_cases hj : j < xs.length
    · rw [List.getElem?_eq_getElem hj]; exact hx _ (List.getElem_mem hj)
    · rw [List.getElem?_eq_none (by omega)]; simp
  rcases h.2 with ⟨hv, h0⟩ | ⟨g, cap', cur, hv, hb, hg, hnc, hcm, hcs, htake⟩
  · injection hv with _ _ hc
    refine ⟨rfl, by omega, by omega, h255, fun h => by omega⟩
  · injection hv with ha _ hc
    subst ha hc
    refine ⟨rfl, hnc, by simp only [maxLen] at hcm; omega, h255, fun _ => ⟨g, 0, rfl, ?_, fun j hj => ?_⟩⟩
    · rcases Nat.lt_or_ge g w.heap.size with h | h
      · exact h
      · rw [Array.getElem?_eq_none h] at hg; cases hg
    · have := h.cells (g := g) rfl j (bv (Pl.nth xs j)) (by simp [Pl.nth, hj])
      have hadd : (⟨g, 0, none⟩ : Addr).add j = ⟨g, 0 + j, none⟩ := by unfold Addr.add; split <;> simp_all
      rwa [hadd] at this
theorem slc_of_own2 {w : World} {B n : Nat} {v : Value} {xs : List Nat} (h : w.ownsRow B 5 1 v n (xs.map bv)) (hx : ∀ x ∈ xs, x < 256) : ∃ A cap, v = .slice A n cap ∧ Slc w A n cap xs := by
  obtain ⟨A, cap, rfl⟩ := own_form h
  have hl : xs.length = n := by have := h.1; simpa using this
  subst hl
  exact ⟨A, cap, rfl, slc_of_own h hx⟩
theorem Slc.below {w w' : World} {A : Option Addr} {n cap : Nat} {xs : List Nat} (h : Slc w A n cap xs) (hb : Below w.heap.size w w') : Slc w' A n cap xs := by
  obtain ⟨hl, hc, hm, hlt, hcell⟩ := h
  refine ⟨hl, hc, hm, hlt, fun h0 => ?_⟩
  obtain ⟨b, off, e, hbl, hcl⟩ := hcell h0
  exact ⟨b, off, e, Nat.lt_of_lt_of_le hbl hb.size, fun j hj => (hb.cell (p := ⟨b, off + j, none⟩) hbl).trans (hcl j hj)⟩
theorem Slc.drewN {w : World} {A : Option Addr} {n cap : Nat} {xs : List Nat} (h : Slc w A n cap xs) (k : Nat) : Slc (w.drewN k) A n cap xs := h
theorem below_drewN {B : Nat} {a w : World} (h : Below B a w) (n : Nat) : Below B a (w.drewN n) := ⟨h.os, h.tape, h.output, h.size, h.block⟩
/-- The text of bytes. -/
def str (xs : List Nat) : ByteArray := strOfNums (xs.map fun (x : Nat) => (x : Int))
theorem str_inj : ∀ (l m : List Nat), (∀ x ∈ l, x < 256) → (∀ y ∈ m, y < 256) → List.map ((fun n : Int => UInt8.ofNat n.toNat) ∘ fun (x : Nat) => (x : Int)) l = List.map ((fun n : Int => UInt8.ofNat n.toNat) ∘ fun (x : Nat) => (x : Int)) m → l = m := by
  intro l
  induction l with
  | nil => intro m _ _ h; cases m <;> simp_all
  | cons a l ih =>
    intro m ha hb h
    cases m with
    | nil => simp at h
    | cons b m =>
      simp only [List.map_cons, List.cons.injEq, Function.comp] at h
      have h1 := congrArg UInt8.toNat h.1
      simp at h1
      have a1 := ha a (by simp)
      have b1 := hb b (by simp)
      rw [ih m (fun x hx => ha x (by simp [hx])) (fun x hx => hb x (by simp [hx])) h.2]
      congr 1
      omega
theorem str_eq {xs ys : List Nat} (hx : ∀ x ∈ xs, x < 256) (hy : ∀ y ∈ ys, y < 256) : ((str xs).toList == (str ys).toList) = decide (xs = ys) := by
  rw [Bool.eq_iff_iff]
  simp only [beq_iff_eq, decide_eq_true_eq, ByteArray.toList_eq]
  constructor
  · intro h
    simp only [str, strOfNums_data, List.map_map] at h
    exact str_inj xs ys hx hy h
  · rintro rfl; rfl
/-- 'string(b)'. -/
theorem conv_slc {w : World} {A : Option Addr} {n cap : Nat} {xs : List Nat} (h : Slc w A n cap xs) : (convert 33 9 (.slice A n cap)).run Try.prog w = .ok (.string (str xs)) w := by
  obtain ⟨hl, hc, hm, hlt, hcell⟩ := h
  subst hl
  by_cases h0 : 0 < xs.length
  · obtain ⟨b, off, rfl, _, hcl⟩ := hcell h0
    refine run_convert_bytes_arg (P := Try.prog) w _ _ Try.underlying33 Try.underlying5 b off xs.length cap (xs.map fun (x : Nat) => (x : Int)) (by simp) (fun i hi => ?_) _ Try.underlying9
    rw [hcl i hi]
    simp [bv, Pl.nth, hi]
  · have hx : xs = [] := List.eq_nil_of_length_eq_zero (by omega)
    subst hx
    rcases A with _ | ⟨b, off, sp⟩
    · exact run_convert_bytes_nil (P := Try.prog) w _ _ Try.underlying33 Try.underlying5 _ _ _ Try.underlying9
    · have hl : (loadCells ⟨b, off, sp⟩ 0).run Try.prog w = .ok (([] : List Int).map (Value.int .u8)).toArray w := by simp [loadCells, loadCellsFrom]
      rw [run_convert_bytes_string w _ _ _ _ _ cap Try.underlying33 Try.underlying5 Try.underlying9]
      exact run_bytesToString w _ 0 cap [] hl
theorem Slc.take_ {w : World} {A : Option Addr} {n cap : Nat} {xs : List Nat} (h : Slc w A n cap xs) {u : Nat} (hu : u ≤ n) : Slc w A u cap (xs.take u) := by
  obtain ⟨hl, hc, hm, hlt, hcell⟩ := h
  refine ⟨by rw [List.length_take]; omega, by omega, hm, fun j => ?_, fun h0 => ?_⟩
  · rw [Pl.nth_take]; have := hlt j; split <;> omega
  · obtain ⟨b, off, e, hb, hcl⟩ := hcell (by omega)
    exact ⟨b, off, e, hb, fun j hj => by rw [Pl.nth_take, if_pos hj]; exact hcl j (by omega)⟩

/-- A slice of numbers that came in reads as its bytes. -/
theorem slc_of_row {w : World} {a : Option Addr} {len cap : Nat} {zs : List Int}
    (h : (a = none ∧ len = 0 ∧ cap = 0 ∧ zs = []) ∨
      ∃ x, a = some x ∧ len ≤ cap ∧ cap ≤ maxLen ∧ zs.length = cap ∧ (∀ i, i < zs.length → w.cell? (x.add i) = some (.int .u8 (zs.getD i 0))) ∧ ∀ n ∈ zs, (Lit.int .u8 n).wf = true) :
    ∃ xs, Slc w a len cap xs := by
  rcases h with ⟨rfl, rfl, rfl, rfl⟩ | ⟨⟨b, off, sp⟩, rfl, hl, hm, hz, hc, hw⟩
  · exact ⟨[], rfl, by omega, by omega, fun j => by simp [Pl.nth], fun h => by omega⟩
  · have hwf : ∀ i, i < cap → 0 ≤ zs.getD i 0 ∧ zs.getD i 0 < 256 := fun i hi => by
      have hi' : i < zs.length := by omega
      have := hw (zs.getD i 0) (by simp [List.getD_eq_getElem?_getD, hi'])
      simp [Lit.wf, IntKind.min, IntKind.max, IntKind.bits, IntKind.signed] at this ⊢
      omega
    refine ⟨(zs.take len).map Int.toNat, by simp; omega, hl, by simp only [maxLen] at hm; omega, fun j => ?_, fun h0 => ?_⟩
    · unfold Pl.nth
      rw [List.getD_eq_getElem?_getD]
      by_cases hj : j < len
      · have hj' : j < zs.length := by omega
        have := hwf j (by omega)
        simp [hj, hj', List.getD_eq_getElem?_getD] at this ⊢
        omega
      · simp [List.getElem?_take, hj]
    · have h00 := hc 0 (by omega)
      have hsp : sp = none := by simpa [Addr.add] using World.cell?_spot h00
      subst hsp
      have hlt := World.block_lt_of_cell? w _ h00
      have hadd : ∀ j, (⟨b, off, none⟩ : Addr).add j = ⟨b, off + j, none⟩ := fun j => by unfold Addr.add; split <;> simp_all
      refine ⟨b, off, rfl, by simpa [hadd] using hlt, fun j hj => ?_⟩
      have hj' : j < zs.length := by omega
      have h1 := hc j hj'
      have h2 := hwf j (by omega)
      rw [hadd] at h1
      rw [h1]
      simp [bv, Pl.nth, hj, hj', List.getD_eq_getElem?_getD] at h2 ⊢
      omega
theorem u64_nat {a : Int} (h : (Lit.int .u64 a).wf = true) : ∃ n : Nat, a = n ∧ n < 18446744073709551616 := by
  simp [Lit.wf, IntKind.min, IntKind.max, IntKind.bits, IntKind.signed] at h
  exact ⟨a.toNat, by omega, by omega⟩
theorem u8_nat {a : Int} (h : (Lit.int .u8 a).wf = true) : ∃ n : Nat, a = n ∧ n < 256 := by
  simp [Lit.wf, IntKind.min, IntKind.max, IntKind.bits, IntKind.signed] at h
  exact ⟨a.toNat, by omega, by omega⟩

theorem own_mono {w : World} {B B' : Nat} {t : TypeId} {v : Value} {n : Nat} {xs : List Value} (h : w.ownsRow B t 1 v n xs) (hb : B' ≤ B) : w.ownsRow B' t 1 v n xs := by
  refine ⟨h.1, ?_⟩
  rcases h.2 with h2 | ⟨g, cap, cur, hv, hg, r⟩
  · exact Or.inl h2
  · exact Or.inr ⟨g, cap, cur, hv, Nat.le_trans hb hg, r⟩
/-- What a call owns at its end, handed back. -/
theorem ret_own {w w' : World} {B : Nat} {v : Value} {n : Nat} {xs : List Nat} (h : w'.ownsRow B 5 1 v n (xs.map bv)) (hB : w.heap.size ≤ B) (hb : Below w.heap.size w w') : RetBytes w xs (.returned v) w' := by
  obtain ⟨A, cap, rfl⟩ := own_form h
  have hl : xs.length = n := by have := h.1; simpa using this
  subst hl
  exact ⟨A, cap, rfl, own_mono h hB, hb⟩
/-- A new array of bytes, looked at as a slice. -/
theorem slc_new {w : World} {g : Nat} {t : TypeId} {fr : Nat × Nat} (xs : List Nat) (hg : w.heap[g]? = some (.cells (xs.map bv).toArray t fr)) (hx : ∀ x ∈ xs, x < 256) (hm : xs.length ≤ 9223372036854775807) : Slc w (some ⟨g, 0, none⟩) xs.length xs.length xs := by
  have hgl : g < w.heap.size := by
    rcases Nat.lt_or_ge g w.heap.size with h | h
    · exact h
    · rw [Array.getElem?_eq_none h] at hg; cases hg
  refine ⟨rfl, Nat.le_refl _, hm, fun j => ?_, fun _ => ⟨g, 0, rfl, hgl, fun j hj => ?_⟩⟩
  · unfold Pl.nth
    rw [List.getD_eq_getElem?_getD]
    by_cases hj : j < xs.length
    · rw [List.getElem?_eq_getElem hj]; exact hx _ (List.getElem_mem hj)
    · rw [List.getElem?_eq_none (by omega)]; simp
  · simp [World.cell?, hg, Pl.nth, hj]
end Go.Proofs.Ytolpfchnfhdhkaa
