/-
  The walks of isLabel, set and add.
-/
import Derived.Test.YtolpfchnfhdhkaaDrf
namespace Go.Proofs.Ytolpfchnfhdhkaa
open Go.RowKit
set_option maxRecDepth 100000
set_option maxRecDepth 100000

/-- What draft p got is new. -/
def OwnExt (own own' : Nat → Option (Nat × Nat)) (p lo hi : Nat) : Prop := ∀ g, own' g = own g ∨ (lo ≤ g ∧ g < hi ∧ ∃ i, own' g = some (p, i))
theorem ownExt_refl (own : Nat → Option (Nat × Nat)) (p lo hi : Nat) : OwnExt own own p lo hi := fun _ => .inl rfl
theorem OwnExt.trans {own own1 own2 : Nat → Option (Nat × Nat)} {p lo mi hi : Nat} (h1 : OwnExt own own1 p lo mi) (h2 : OwnExt own1 own2 p mi hi) (h : lo ≤ mi) (h' : mi ≤ hi) : OwnExt own own2 p lo hi := fun g => by
  rcases h2 g with e | ⟨a, b, c⟩
  · rcases h1 g with e1 | ⟨a, b, i, c⟩
    · exact .inl (e.trans e1)
    · exact .inr ⟨a, by omega, i, e.trans c⟩
  · exact .inr ⟨by omega, b, c⟩
theorem OwnExt.wide {own own' : Nat → Option (Nat × Nat)} {p lo lo' hi hi' : Nat} (h : OwnExt own own' p lo hi) (h1 : lo' ≤ lo) (h2 : hi ≤ hi') : OwnExt own own' p lo' hi' := fun g => by
  rcases h g with e | ⟨a, b, c⟩
  · exact .inl e
  · exact .inr ⟨by omega, by omega, c⟩
theorem OwnExt.old {own own' : Nat → Option (Nat × Nat)} {p lo hi g : Nat} (h : OwnExt own own' p lo hi) (hg : g < lo) : own' g = own g := by
  rcases h g with e | ⟨a, _⟩
  · exact e
  · omega
theorem ownNew_ext {w w' : World} {own : Nat → Option (Nat × Nat)} {p j : Nat} {v : Value} (hlt : ∀ g, v.ownBlock = some g → g < w'.heap.size) : OwnExt own (ownNew own w.heap.size p j v) p w.heap.size w'.heap.size := fun g => by
  unfold ownNew
  split
  · rename_i h
    exact .inr ⟨h.1, hlt g h.2, _, rfl⟩
  · exact .inl rfl
theorem ModBy.of_up {w w' : World} (h : Lex.Up w w') (own : Nat → Option (Nat × Nat)) (p : Nat) : ModBy w w' own p := ⟨h.os, h.tape, h.output, h.size, fun g hg _ => h.block g hg⟩
theorem ModBy.trans {w w1 w2 : World} {own own1 : Nat → Option (Nat × Nat)} {p : Nat} (h1 : ModBy w w1 own p) (h2 : ModBy w1 w2 own1 p) (hx : OwnExt own own1 p w.heap.size w1.heap.size) : ModBy w w2 own p :=
  ⟨h2.os.trans h1.os, h2.tape.trans h1.tape, h2.output.trans h1.output, Nat.le_trans h1.size h2.size, fun g hg hne => (h2.block g (Nat.lt_of_lt_of_le hg h1.size) (fun i => by rw [hx.old hg]; exact hne i)).trans (h1.block g hg hne)⟩
theorem DrW.up {w w' : World} {B p : Nat} {own : Nat → Option (Nat × Nat)} {vs : Nat → Value} {D : Nat → Nat × List Value} (h : DrW w B own p vs D) (hu : Lex.Up w w') : DrW w' B own p vs D :=
  ⟨h.k.up hu, h.o, fun j hj => ⟨own_up (h.r j hj).1 hu, (h.r j hj).2⟩⟩

def Dr.lab (l : Int) : Bool := decide (0 ≤ l ∧ l < 2)
theorem isLabel_any (l : Int) (w : World) : Calls Try.prog 119 #[.int .i64 l] w fun x w' => x = .returned (.bool (Dr.lab l)) ∧ w' = w := by
  obtain ⟨b, hb⟩ : ∃ b, Dr.lab l = b := ⟨_, rfl⟩
  rw [hb]
  unfold Dr.lab at hb
  by_cases h0 : 0 ≤ l
  rotate_left
  · obtain rfl : b = false := by rw [← hb]; simp; omega
    have d : decide (0 ≤ l) = false := by simpa using h0
    clear hb
    go_enter Try.func119, Try.ntmps119
    go_wp2
    go_ret
    exact ⟨rfl, rfl⟩
  by_cases h5 : l < 2
  · obtain rfl : b = true := by rw [← hb]; simp; omega
    have d : decide (l < 2) = true := by simpa using h5
    clear hb
    go_enter Try.func119, Try.ntmps119
    go_wp2
    go_ret
    exact ⟨rfl, rfl⟩
  · obtain rfl : b = false := by rw [← hb]; simp; omega
    have d : decide (l < 2) = false := by simpa using h5
    clear hb
    go_enter Try.func119, Try.ntmps119
    go_wp2
    go_ret
    exact ⟨rfl, rfl⟩

theorem elemStr : Elem Try.prog 48 9 (.string ⟨#[]⟩) 1 16 := ⟨Try.underlying48, by kernel_rfl, rfl, by decide⟩
theorem elemStp : Elem Try.prog 99 82 (.agg #[.int .i64 0, .int .i64 0]) 2 16 := ⟨Try.underlying99, by kernel_rfl, rfl, by decide⟩
def Dr.addAt (D : Nat → Nat × List Value) (j : Nat) (ys : List Value) : Nat → Nat × List Value := Dr.upd D j ((D j).1 + 1, (D j).2 ++ ys)
/-- What a write to draft p leaves. -/
structure DrPost (w w' : World) (B : Nat) (own : Nat → Option (Nat × Nat)) (p : Nat) (D : Nat → Nat × List Value) : Prop where
  x : ∃ own' vs', DrW w' B own' p vs' D ∧ OwnExt own own' p w.heap.size w'.heap.size
  m : ModBy w w' own p

theorem drw_cell {w : World} {B p : Nat} {own : Nat → Option (Nat × Nat)} {vs : Nat → Value} {D : Nat → Nat × List Value} (h : DrW w B own p vs D) {j : Nat} (hj : j < 6) : w.cell? ⟨p, j, none⟩ = some (vs j) := by
  match j, hj with
  | 0, _ | 1, _ | 2, _ | 3, _ | 4, _ | 5, _ => exact h.k.cell rfl
theorem drw_apart {w w' : World} {B p j : Nat} {own : Nat → Option (Nat × Nat)} {vs : Nat → Value} {D : Nat → Nat × List Value} (h : DrW w B own p vs D) (hj : j < 6) (hg : w.grownBy w' (vs j).ownBlock) : Blk w' p #[vs 0, vs 1, vs 2, vs 3, vs 4, vs 5] 102 :=
  h.k.grown hg (fun e => by
    have := (h.r j hj).2 p e.symm
    rw [h.o] at this
    simp at this)
theorem blk_cell6 {w : World} {p : Nat} {vs : Nat → Value} {t : TypeId} (h : Blk w p #[vs 0, vs 1, vs 2, vs 3, vs 4, vs 5] t) {j : Nat} (hj : j < 6) : w.cell? ⟨p, j, none⟩ = some (vs j) := by
  match j, hj with
  | 0, _ | 1, _ | 2, _ | 3, _ | 4, _ | 5, _ => exact h.cell rfl
theorem drpost_app {w w5 w6 : World} {B p j n' : Nat} {own : Nat → Option (Nat × Nat)} {vs : Nat → Value} {D : Nat → Nat × List Value} {v' : Value} {xs' : List Value} (h : DrW w5 B own p vs D) (hu : Lex.Up w w5) (hj : j < 6)
    (hown : w6.ownsRow B (Dr.ty j) (Dr.sz j) v' n' xs') (hg : w5.grownBy w6 (vs j).ownBlock) (hsep : ∀ g, v'.ownBlock = some g → (vs j).ownBlock = some g ∨ w5.heap.size ≤ g) :
    DrPost w (w6.setCell ⟨p, j, none⟩ v') B own p (Dr.upd D j (n', xs')) := by
  obtain ⟨h1, h2⟩ := drw_app h hj hown hg hsep
  have hz : (w6.setCell ⟨p, j, none⟩ v').heap.size = w6.heap.size := by simp [World.setCell]
  refine ⟨⟨_, _, h1, ?_⟩, (ModBy.of_up hu own p).trans h2 (ownExt_refl _ _ _ _)⟩
  refine (ownNew_ext (w := w5) (w' := w6) (fun g hgo => (hown.lt g hgo).2)).wide hu.size ?_
  omega
set_option maxHeartbeats 6400000 in
theorem dadd_any (B p k : Nat) (own : Nat → Option (Nat × Nat)) (vs : Nat → Value) (D : Nat → Nat × List Value) (e : Ev) (w : World) (h : DrW w B own p vs D) (hB : B ≤ w.heap.size) (hn : ∀ j, j < 6 → (D j).1 ≤ 1000000) (hk : k < 2) (hl : e.l = k) :
    Calls Try.prog 100 #[.pointer (some ⟨p, 0, none⟩), e.val] w fun x w' => x = .returned (.tuple #[]) ∧ DrPost w w' B own p (Dr.addAt D (4 + k) [.string e.v]) := by
  have hk' : (k : Int) < 2 := by omega
  have h46 : 4 + k < 6 := by omega
  have t4 : Dr.ty (4 + k) = 9 := by unfold Dr.ty; rw [if_neg (by omega)]
  have z4 : Dr.sz (4 + k) = 1 := by unfold Dr.sz; rw [if_neg (by omega)]
  have HL := Lib.hid hl
  have LB := Lib.hid (fun w => show Calls Try.prog 119 #[.int .i64 k] w fun x w' => x = .returned (.bool true) ∧ w' = w from by
    have := isLabel_any k w
    rwa [show Dr.lab k = true by unfold Dr.lab; simp; omega] at this)
  clear hl
  have R4 := Lib.hid (show ∀ w5, Lex.Up w w5 → w5.ownsRow B 9 1 (vs (4 + k)) (D (4 + k)).1 (D (4 + k)).2 from fun w5 hu => by have := own_up (h.r _ h46).1 hu; rwa [t4, z4] at this)
  have DU := Lib.hid (fun w5 (hu : Lex.Up w w5) => h.up hu)
  have DP := Lib.hid (fun w5 w6 v' n' xs' (hu : Lex.Up w w5) (hown : w6.ownsRow B 9 1 v' n' xs') hg hsep => drpost_app (h.up hu) hu (w6 := w6) (v' := v') h46 (n' := n') (xs' := xs') (by rw [t4, z4]; exact hown) hg hsep)
  have RL := Lib.hid (fun g hg => rw_lt (h.r (4 + k) h46) (g := g) hg)
  have HN := Lib.hid (hn (4 + k) h46)
  have hp := h.k.lt
  have hc := drw_cell h h46
  clear hn t4 z4
  have K0 := Lib.hid (Blk.new w e.cells 39)
  have U0 := Lib.hid (show Lex.Up w (w.alloc (.cells e.cells 39)) from (Below.refl _ _).alloc (Nat.le_refl _) _)
  have d4 := drw_cell (DU.out _ U0.out) h46
  obtain ⟨W, hW⟩ : ∃ W, W = w.alloc (.cells e.cells 39) := ⟨_, rfl⟩
  rw [← hW] at K0 U0 d4
  obtain ⟨a0, a1, a2, a3, a4, a5, a6, a7, a8, a9, a10, a11⟩ := K0.out.e12
  rw [HL.out] at a10
  have ltp : p < W.heap.size := Nat.lt_of_lt_of_le hp U0.out.size
  have lte := K0.out.lt
  unfold Ev.cells at hW
  unfold Ev.val at *
  clear h hc a0 a1 a2 a3 a4 a5 a6 a7 a8 a9
  go_enter Try.func100, Try.ntmps100
  go_upto_region 1 with (fail)
  refine wp_named (fun W2 hW2 => ?_)
  obtain rfl : W2 = W := by rw [hW2, hW]
  clear hW hW2
  go_wp2_with fail
  refine (LB.out _).mono ?_
  rintro x w' ⟨rfl, rfl⟩
  go_upto_region 2 with (fail)
  have UA := Lib.hid (show Lex.Up w' (w'.drew.alloc (.cells #[.string e.v] 9)) from (Lex.Up.drew w').alloc (Nat.le_refl _) _)
  have SX := Lib.hid (Sl.of_blk (n := 1) (sz := 1) (Blk.new w'.drew #[.string e.v] 9) rfl (by omega))
  have ES := Lib.hid elemStr
  have UW := Lib.hid (show Lex.Up w (w'.drew.alloc (.cells #[.string e.v] 9)) from Below.trans U0.out (UA.out.mono U0.out.size))
  go_region_law (first
    | (refine ES.out.step_sep (by rfl) (.tmp 16) (.tmp 19) rfl B (vs (4 + k)) (D (4 + k)).1 (D (4 + k)).2 (by rfl) (R4.out _ UW.out) w'.heap.size 0 1 1 [.string e.v] (by rfl) (by decide) SX.out (by simp [Value.oneCell']) (by have := HN.out; omega) (by have := HN.out; simp only [maxLen]; omega) (Nat.le_trans hB UW.out.size) ?_
       intro v6 w6 hown6 hg6 hs6
       obtain ⟨A6, cap6, rfl, -⟩ := Sl.of_own hown6
       have P6 := Lib.hid (DP.out _ w6 _ _ _ UW.out hown6 hg6 hs6)
       have B6 := Lib.hid (drw_apart (DU.out _ UW.out) h46 hg6)
       have f6 := B6.out.frozen (4 + k)
       have c6 := blk_cell6 B6.out h46
       have E6 := Lib.hid ((K0.out.up UA.out).grown hg6 (fun e => by have := RL.out _ e.symm; omega))
       have e10 : w6.cell? ⟨w.heap.size, 10, none⟩ = some (.int .i64 k) := by rw [← HL.out]; exact E6.out.cell rfl
       clear hown6 hg6 hs6))
  all_goals
    go_wp2
    go_end0
    exact ⟨rfl, P6.out⟩
end Go.Proofs.Ytolpfchnfhdhkaa
