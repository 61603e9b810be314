/-
  Drafts in memory: whose rows they are, and what an append to one of them leaves as it was.
-/
import Derived.Test.YtolpfchnfhdhkaaRul
import Derived.Test.YtolpfchnfhdhkaaStp
namespace Go.Proofs.Ytolpfchnfhdhkaa
open Go.RowKit
set_option maxRecDepth 100000
set_option maxRecDepth 100000

/-- Where an append puts its row: it stays, or it is a new block. -/
theorem append_sep {P : Program} {t e : TypeId} {z : Value} {size bytes : Nat} (E : Elem P t e z size bytes) (w : World) (ty : TypeId) (base : Nat) (v : Value) (n : Nat) (xs : List Value) (hown : w.ownsRow base e size v n xs)
    (a : Addr) (m c : Nat) (news : List Value) (hl : news.length = m * size) (hnews : ∀ j u, news[j]? = some u → w.cell? (a.add j) = some u) (h1 : ∀ u ∈ news, u.oneCell' = true)
    (h63 : n + m ≤ maxLen) (hbytes : (n + m) * bytes ≤ 140737488355328) (hbase : base ≤ w.heap.size) :
    ∃ v' w', (Builtin.append_ #[t, t] ty #[v, .slice (some a) m c]).run P w = .ok v' w' ∧ w'.ownsRow base e size v' (n + m) (xs ++ news) ∧ w.grownBy w' v.ownBlock ∧
      (∀ g, v'.ownBlock = some g → v.ownBlock = some g ∨ w.heap.size ≤ g) := by
  obtain ⟨i0, hi, hz0, hz1, hz2⟩ := info_parts E.info
  obtain ⟨v', w', hr, k1, k2, _⟩ := run_append_own (P := P) w base t ty e i0 z size bytes E.ut hi hz0 hz1 hz2 E.zs E.pos v n xs hown a m c news hl hnews h1 h63 hbytes hbase
  refine ⟨v', w', hr, k1, k2, fun g hg => ?_⟩
  rcases hown.2 with ⟨rfl, rfl⟩ | ⟨g0, cap, cur, rfl, hb, hgg, hnc, hcm, hcs, htake⟩
  · have hx : xs = [] := List.eq_nil_of_length_eq_zero (by simpa using hown.1)
    subst hx
    obtain ⟨v2, w2, hr2, q1, _, _⟩ := run_append_own (P := P) w w.heap.size t ty e i0 z size bytes E.ut hi hz0 hz1 hz2 E.zs E.pos _ 0 [] (World.ownsRow_nil w w.heap.size e size) a m c news hl hnews h1 h63 hbytes (Nat.le_refl _)
    rw [hr] at hr2
    injection hr2 with e1 e2
    subst e1
    exact .inr (q1.lt g hg).1
  · subst hz1
    subst hz2
    by_cases hroom : n + m ≤ cap
    · have hfit : n * i0.size + news.length ≤ cur.size := by rw [hl, hcs, ← Nat.add_mul]; exact Nat.mul_le_mul_right _ hroom
      have hr2 := run_append_room (P := P) w t ty e i0 E.ut hi g0 n cap cur hgg a m c news hl hnews h1 hroom hfit
      rw [hr] at hr2
      injection hr2 with e1 e2
      subst e1
      exact .inl hg
    · have holds : ∀ j u, xs[j]? = some u → w.cell? ((⟨g0, 0, none⟩ : Addr).add j) = some u := hown.cells (g := g0) rfl
      have hr2 := run_append_grow (P := P) w t ty e i0 z E.ut hi hz0 ⟨g0, 0, none⟩ n cap xs hown.1 holds a m c news hl hnews (by omega) (by simp only [maxLen] at h63; omega) (growslice_fits (by omega) hbytes)
      rw [hr] at hr2
      injection hr2 with e1 e2
      subst e1
      simp [Value.ownBlock] at hg
      exact .inr (by omega)
namespace Elem
variable {P : Program} {t e : TypeId} {z : Value} {size bytes : Nat}
/-- One element appended, as a step of a region that draws its order; where its row is then. -/
theorem step_sep (E : Elem P t e z size bytes) {w : World} {ops : Array Oper} {o : Oper} {a : Act} {K : Act → World → Prop} {Q : Exit → Act → World → Prop} {F : Prop} (hw : Region.wanted o (yielded ops a.tmps) = true) (s x : Operand)
    (ho : o.op = .call { callee := .builtin .append, args := #[s, x], argTypes := #[t, t] })
    (base : Nat) (v : Value) (n : Nat) (xs : List Value) (hs : a.eval s = v) (hown : w.ownsRow base e size v n xs)
    (b off m c : Nat) (ys : List Value) (hx : a.eval x = .slice (some ⟨b, off, none⟩) m c) (hm0 : 0 < m) (hsl : Sl w size (some ⟨b, off, none⟩) m c ys) (h1 : ∀ u ∈ ys, u.oneCell' = true)
    (hn : (n + m) * bytes ≤ 140737488355328) (hm : n + m ≤ maxLen) (hbase : base ≤ w.heap.size)
    (h : ∀ v' w', w'.ownsRow base e size v' (n + m) (xs ++ ys) → w.grownBy w' v.ownBlock → (∀ g, v'.ownBlock = some g → v.ownBlock = some g ∨ w.heap.size ≤ g) → K (a.put o.dst v') w') : if Region.wanted o (yielded ops a.tmps) = true then Oper.wp P o a w K Q else F := by
  rw [if_pos hw]
  obtain ⟨hl, hmc, hcm, hcell⟩ := hsl
  obtain ⟨b', off', e', hbl, hcl⟩ := hcell hm0
  obtain ⟨rfl, rfl⟩ : b = b' ∧ off = off' := by simpa using e'
  obtain ⟨v', w', hr, k1, k2, k3⟩ := append_sep E w o.type base v n xs hown ⟨b, off, none⟩ m c ys hl (fun j u hu => by
    have hadd : (⟨b, off, none⟩ : Addr).add j = ⟨b, off + j, none⟩ := by unfold Addr.add; split <;> simp_all
    rw [hadd]
    exact hcl j u hu) h1 hm hn hbase
  unfold Oper.wp execOp
  simp only [ho, resolve, invoke, builtin, Sem.run_bind, Sem.run_pure, Result.andThen_ok, List.map_toArray, List.map_cons, List.map_nil, hs, hx, hr]
  exact h v' w' k1 k2 k3
end Elem

theorem by_set' (w : World) (b i : Nat) (v : Value) : w.grownBy (w.setCell ⟨b, i, none⟩ v) (some b) :=
  ⟨rfl, rfl, rfl, by simp [World.setCell], fun k _ hne => Below.heap_setCell w ⟨b, i, none⟩ v k (fun e => hne (by rw [show k = b from e]))⟩
/-- A row that draft p owns as its j-th. -/
def Rw (w : World) (B : Nat) (own : Nat → Option (Nat × Nat)) (p j : Nat) (v : Value) (e sz n : Nat) (xs : List Value) : Prop :=
  w.ownsRow B e sz v n xs ∧ ∀ g, v.ownBlock = some g → own g = some (p, j + 1)
def Dr.ty (j : Nat) : TypeId := if j = 2 ∨ j = 3 then 82 else 9
def Dr.sz (j : Nat) : Nat := if j = 2 ∨ j = 3 then 2 else 1
def Dr.upd {α : Type} (f : Nat → α) (j : Nat) (x : α) : Nat → α := fun i => if i = j then x else f i
/-- Draft p holds these rows. -/
structure DrW (w : World) (B : Nat) (own : Nat → Option (Nat × Nat)) (p : Nat) (vs : Nat → Value) (D : Nat → Nat × List Value) : Prop where
  k : Blk w p #[vs 0, vs 1, vs 2, vs 3, vs 4, vs 5] 102
  o : own p = some (p, 0)
  r : ∀ j, j < 6 → Rw w B own p j (vs j) (Dr.ty j) (Dr.sz j) (D j).1 (D j).2
/-- All but what draft p owns is as it was. -/
structure ModBy (w w' : World) (own : Nat → Option (Nat × Nat)) (p : Nat) : Prop where
  os : w'.os = w.os
  tape : w'.tape = w.tape
  output : w'.output = w.output
  size : w.heap.size ≤ w'.heap.size
  block : ∀ g, g < w.heap.size → (∀ i, own g ≠ some (p, i)) → w'.heap[g]? = w.heap[g]?
/-- Who owns what, once draft p has got a new row. -/
def ownNew (own : Nat → Option (Nat × Nat)) (z : Nat) (p j : Nat) (v : Value) : Nat → Option (Nat × Nat) := fun g => if z ≤ g ∧ v.ownBlock = some g then some (p, j + 1) else own g
theorem ownNew_old {own : Nat → Option (Nat × Nat)} {z p j g : Nat} {v : Value} (h : g < z) : ownNew own z p j v g = own g := by
  unfold ownNew; rw [if_neg (by omega)]
theorem rw_lt {w : World} {B p j e sz n : Nat} {own : Nat → Option (Nat × Nat)} {v : Value} {xs : List Value} (h : Rw w B own p j v e sz n xs) {g : Nat} (hg : v.ownBlock = some g) : g < w.heap.size := (h.1.lt g hg).2
theorem drw_app {w w' : World} {B p j n' : Nat} {own : Nat → Option (Nat × Nat)} {vs : Nat → Value} {D : Nat → Nat × List Value} {v' : Value} {xs' : List Value} (h : DrW w B own p vs D) (hj : j < 6)
    (hown : w'.ownsRow B (Dr.ty j) (Dr.sz j) v' n' xs') (hg : w.grownBy w' (vs j).ownBlock) (hsep : ∀ g, v'.ownBlock = some g → (vs j).ownBlock = some g ∨ w.heap.size ≤ g) :
    DrW (w'.setCell ⟨p, j, none⟩ v') B (ownNew own w.heap.size p j v') p (Dr.upd vs j v') (Dr.upd D j (n', xs')) ∧ ModBy w (w'.setCell ⟨p, j, none⟩ v') own p := by
  have hp := h.k.lt
  have hpo : (vs j).ownBlock ≠ some p := fun e => by
    have := (h.r j hj).2 p e
    rw [h.o] at this
    simp at this
  have hk' : Blk w' p #[vs 0, vs 1, vs 2, vs 3, vs 4, vs 5] 102 := h.k.grown hg (fun e => hpo e.symm)
  refine ⟨⟨?_, ?_, fun i hi => ?_⟩, ⟨hg.os, hg.tape, hg.output, by have := hg.size; simp [World.setCell]; exact this, fun g hgl hne => ?_⟩⟩
  · have := hk'.set j v'
    match j, hj with
    | 0, _ | 1, _ | 2, _ | 3, _ | 4, _ | 5, _ => simpa [Dr.upd] using this
  · rw [ownNew_old hp]; exact h.o
  · by_cases hij : i = j
    · subst hij
      simp only [Dr.upd, if_true]
      refine ⟨?_, fun g hgo => ?_⟩
      · refine hown.kept (w' := w'.setCell ⟨p, i, none⟩ v') (row := some p) (by_set' w' p i v') ?_
        rcases hq : v'.ownBlock with _ | g
        · exact .inl rfl
        · refine .inr fun e => ?_
          injection e with e
          subst e
          rcases hsep g hq with h1 | h1
          · exact hpo h1
          · omega
      · unfold ownNew
        rcases hsep g hgo with h1 | h1
        · split
          · rfl
          · exact (h.r i hi).2 g h1
        · rw [if_pos ⟨h1, hgo⟩]
    · simp only [Dr.upd, if_neg hij]
      obtain ⟨r1, r2⟩ := h.r i hi
      have hlt : ∀ g, (vs i).ownBlock = some g → g < w.heap.size := fun g hg => (r1.lt g hg).2
      refine ⟨?_, fun g hgo => by rw [ownNew_old (hlt g hgo)]; exact r2 g hgo⟩
      have k1 : w'.ownsRow B (Dr.ty i) (Dr.sz i) (vs i) (D i).1 (D i).2 := r1.kept hg (by
        rcases hq : (vs i).ownBlock with _ | g
        · exact .inl rfl
        · refine .inr fun e => ?_
          have a1 := r2 g hq
          have a2 := (h.r j hj).2 g e.symm
          rw [a1] at a2
          simp at a2
          omega)
      refine k1.kept (by_set' w' p j v') ?_
      rcases hq : (vs i).ownBlock with _ | g
      · exact .inl rfl
      · refine .inr fun e => ?_
        injection e with e
        subst e
        have a1 := r2 _ hq
        rw [h.o] at a1
        simp at a1
  · have e1 : (w'.setCell ⟨p, j, none⟩ v').heap[g]? = w'.heap[g]? := Below.heap_setCell w' ⟨p, j, none⟩ v' g (fun e => hne 0 (by
      have : g = p := e
      subst this
      exact h.o))
    rw [e1]
    exact hg.block g hgl (fun e => hne (j + 1) ((h.r j hj).2 g e.symm))
end Go.Proofs.Ytolpfchnfhdhkaa
