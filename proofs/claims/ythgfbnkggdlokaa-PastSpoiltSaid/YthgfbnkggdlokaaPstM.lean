/-
  The walk of the reference's Make: a past that replicas make.
-/
import Derived.Test.YthgfbnkggdlokaaPstF
import Derived.Test.YthgfbnkggdlokaaLexT
import Derived.Test.YthgfbnkggdlokaaFit
import Derived.Deep.WholeRow
namespace Go.Proofs.Ythgfbnkggdlokaa
open Go.RowKit
set_option maxRecDepth 100000
set_option maxRecDepth 100000

/-- A choice, plain. -/
structure Ch where
  r : Nat
  f : Nat
  y : Bool
  ed : Ed
namespace Ch
def cells (c : Ch) : Array Value := #[.int .u8 c.r, .int .u8 c.f, .bool c.y, .int .i64 c.ed.k, .string c.ed.key, .int .i64 c.ed.l, .string c.ed.v]
def zero : Ch := ⟨0, 0, false, ⟨0, ⟨#[]⟩, 0, ⟨#[]⟩⟩⟩
def nth (cs : List Ch) (k : Nat) : Ch := cs.getD k zero
def flat : List Ch → List Value
  | [] => []
  | c :: cs => c.cells.toList ++ flat cs
theorem cells_len (c : Ch) : c.cells.toList.length = 7 := rfl
theorem flat_len (cs : List Ch) : (flat cs).length = cs.length * 7 := by
  induction cs with
  | nil => rfl
  | cons e es ih => rw [flat, List.length_append, ih, cells_len, List.length_cons]; omega
theorem flat_nth : ∀ (es : List Ch) (k : Nat), k < es.length → ∀ i v, i < 7 → (nth es k).cells.toList[i]? = some v → (flat es)[k * 7 + i]? = some v
  | [], k, h, _, _, _, _ => by simp at h
  | e :: es, 0, _, i, v, hi, hv => by
    rw [flat, Nat.zero_mul, Nat.zero_add, List.getElem?_append_left (by rw [cells_len]; exact hi)]
    exact hv
  | e :: es, k + 1, h, i, v, hi, hv => by
    rw [flat, List.getElem?_append_right (by rw [cells_len]; omega), cells_len, show (k + 1) * 7 + i - 7 = k * 7 + i by omega]
    exact flat_nth es k (by simpa using h) i v hi hv
theorem flat_take : ∀ (es : List Ch) (u : Nat), (flat es).take (u * 7) = flat (es.take u)
  | [], u => by simp [flat]
  | e :: es, 0 => by simp [flat]
  | e :: es, u + 1 => by
    rw [flat, List.take_succ_cons, flat, ← flat_take es u, List.take_append, cells_len, show (u + 1) * 7 - 7 = u * 7 by omega, List.take_of_length_le (by rw [cells_len]; omega)]
/-- What holds of a choice that came in. -/
structure Ok (c : Ch) : Prop where
  r : c.r < 256
  f : c.f < 256
  key : c.ed.key.size ≤ 140737488351232
  v : c.ed.v.size ≤ 140737488351232
end Ch
/-- A slice value with these choices in it. -/
def ChSl (w : World) (A : Option Addr) (n cap : Nat) (cs : List Ch) : Prop := Sl w 7 A n cap (Ch.flat cs)
namespace ChSl
variable {w w' : World} {A : Option Addr} {n cap : Nat} {cs : List Ch}
theorem len (h : ChSl w A n cap cs) : cs.length = n := by
  have h1 : (Ch.flat cs).length = n * 7 := h.1
  rw [Ch.flat_len] at h1; omega
theorem up (h : ChSl w A n cap cs) (hb : Lex.Up w w') : ChSl w' A n cap cs := Sl.up h hb
theorem addr (h : ChSl w A n cap cs) (h0 : 0 < n) : ∃ b off, A = some ⟨b, off, none⟩ := by
  obtain ⟨b, off, e, _⟩ := h.2.2.2 h0
  exact ⟨b, off, e⟩
theorem take (h : ChSl w A n cap cs) {u : Nat} (hu : u ≤ n) : ChSl w A u cap (cs.take u) := by
  have := Sl.take h hu
  rw [Ch.flat_take] at this
  exact this
end ChSl
theorem ch_at {w : World} {b off n cap : Nat} {cs : List Ch} (h : ChSl w (some ⟨b, off, none⟩) n cap cs) {k : Nat} (hk : k < n) :
    w.cell? ⟨b, off + k * 7, none⟩ = some (.int .u8 (Ch.nth cs k).r) ∧ w.cell? ⟨b, off + k * 7 + 1, none⟩ = some (.int .u8 (Ch.nth cs k).f) ∧ w.cell? ⟨b, off + k * 7 + 2, none⟩ = some (.bool (Ch.nth cs k).y) ∧
    w.cell? ⟨b, off + k * 7 + 3, none⟩ = some (.int .i64 (Ch.nth cs k).ed.k) ∧ w.cell? ⟨b, off + k * 7 + 4, none⟩ = some (.string (Ch.nth cs k).ed.key) ∧ w.cell? ⟨b, off + k * 7 + 5, none⟩ = some (.int .i64 (Ch.nth cs k).ed.l) ∧
    w.cell? ⟨b, off + k * 7 + 6, none⟩ = some (.string (Ch.nth cs k).ed.v) := by
  have hl := h.len
  obtain ⟨b', off', e, hbl, hcell⟩ := h.2.2.2 (by omega)
  obtain ⟨rfl, rfl⟩ : b = b' ∧ off = off' := by simpa using e
  have key : ∀ i v, i < 7 → (Ch.nth cs k).cells.toList[i]? = some v → w.cell? ⟨b, off + k * 7 + i, none⟩ = some v := fun i v hi hv => by
    rw [Nat.add_assoc]
    exact hcell _ _ (Ch.flat_nth cs k (by omega) i v hi hv)
  exact ⟨key 0 _ (by omega) rfl, key 1 _ (by omega) rfl, key 2 _ (by omega) rfl, key 3 _ (by omega) rfl, key 4 _ (by omega) rfl, key 5 _ (by omega) rfl, key 6 _ (by omega) rfl⟩

namespace Pst
def upd (H : Nat → Ck) (r : Nat) (c : Ck) : Nat → Ck := fun q => if q = r then c else H q
def evOf (es : List Ev) (H : Nat → Ck) (r : Nat) (x : Ed) : Ev := ⟨r, (H r).get r + 1, H r, hgt es (H r), x.k, x.key, x.l, x.v⟩
/-- What replicas make: each edit has seen what its replica had; and one gets what another one has. -/
inductive Made : List Ev → (Nat → Ck) → Prop
  | nil : Made [] (fun _ => Ck.zero)
  | sync {es : List Ev} {H : Nat → Ck} (h : Made es H) (r f : Nat) (hr : r < 5) (hf : f < 5) : Made es (upd H r (Ck.join (H r) (H f)))
  | edit {es : List Ev} {H : Nat → Ck} (h : Made es H) (r : Nat) (x : Ed) (hr : r < 5) (hx : Tx.Fits x) : Made (es ++ [evOf es H r x]) (upd H r ((H r).set r ((H r).get r + 1)))
theorem made_low {es : List Ev} {H : Nat → Ck} (h : Made es H) : ∀ q j, j < 5 → 0 ≤ (H q).get j ∧ (H q).get j ≤ es.length := by
  induction h with
  | nil =>
    intro q j hj
    match j, hj with
    | 0, _ | 1, _ | 2, _ | 3, _ | 4, _ => simp [Ck.get, Ck.zero]
  | sync h r f hr hf ih =>
    intro q j hj
    unfold upd
    split
    · rw [Ck.get_join]
      have a := ih r j hj
      have b := ih f j hj
      rw [Int.max_def]
      split <;> omega
    · exact ih q j hj
  | edit h r x hr hx ih =>
    intro q j hj
    unfold upd
    rw [List.length_append, List.length_singleton]
    split
    · rw [get_set _ _ _ _ hj]
      have a := ih r r hr
      have b := ih r j hj
      split <;> omega
    · have := ih q j hj
      omega
def hcells (H : Nat → Ck) : Array Value := #[.int .i64 (H 0).c0, .int .i64 (H 0).c1, .int .i64 (H 0).c2, .int .i64 (H 0).c3, .int .i64 (H 0).c4,
  .int .i64 (H 1).c0, .int .i64 (H 1).c1, .int .i64 (H 1).c2, .int .i64 (H 1).c3, .int .i64 (H 1).c4,
  .int .i64 (H 2).c0, .int .i64 (H 2).c1, .int .i64 (H 2).c2, .int .i64 (H 2).c3, .int .i64 (H 2).c4,
  .int .i64 (H 3).c0, .int .i64 (H 3).c1, .int .i64 (H 3).c2, .int .i64 (H 3).c3, .int .i64 (H 3).c4,
  .int .i64 (H 4).c0, .int .i64 (H 4).c1, .int .i64 (H 4).c2, .int .i64 (H 4).c3, .int .i64 (H 4).c4]
theorem hcells_set (H : Nat → Ck) (r : Nat) (hr : r < 5) (c : Ck) :
    (((((hcells H).setIfInBounds (r * 5) (.int .i64 c.c0)).setIfInBounds (r * 5 + 1) (.int .i64 c.c1)).setIfInBounds (r * 5 + 2) (.int .i64 c.c2)).setIfInBounds (r * 5 + 3) (.int .i64 c.c3)).setIfInBounds (r * 5 + 4) (.int .i64 c.c4) = hcells (upd H r c) := by
  match r, hr with
  | 0, _ | 1, _ | 2, _ | 3, _ | 4, _ => simp [hcells, upd]
theorem hcells_one (H : Nat → Ck) (r : Nat) (hr : r < 5) (x : Int) :
    (hcells H).setIfInBounds (r * 5 + r) (.int .i64 x) = hcells (upd H r ((H r).set r x)) := by
  match r, hr with
  | 0, _ | 1, _ | 2, _ | 3, _ | 4, _ => simp [hcells, upd, Ck.set]
end Pst
namespace Blk
variable {w : World} {b : Nat} {H : Nat → Ck} {t : TypeId}
theorem hv (h : Blk w b (Pst.hcells H) t) {r : Nat} (hr : r < 5) : w.cell? ⟨b, r * 5, none⟩ = some (.int .i64 (H r).c0) ∧ w.cell? ⟨b, r * 5 + 1, none⟩ = some (.int .i64 (H r).c1) ∧ w.cell? ⟨b, r * 5 + 2, none⟩ = some (.int .i64 (H r).c2) ∧
    w.cell? ⟨b, r * 5 + 3, none⟩ = some (.int .i64 (H r).c3) ∧ w.cell? ⟨b, r * 5 + 4, none⟩ = some (.int .i64 (H r).c4) := by
  match r, hr with
  | 0, _ | 1, _ | 2, _ | 3, _ | 4, _ => exact ⟨h.cell rfl, h.cell rfl, h.cell rfl, h.cell rfl, h.cell rfl⟩
theorem h1 (h : Blk w b (Pst.hcells H) t) {r : Nat} (hr : r < 5) : w.cell? ⟨b, r * 5 + r, none⟩ = some (.int .i64 ((H r).get r)) := by
  match r, hr with
  | 0, _ | 1, _ | 2, _ | 3, _ | 4, _ => exact h.cell rfl
theorem hset (h : Blk w b (Pst.hcells H) t) {r : Nat} (hr : r < 5) (c : Ck) :
    Blk (((((w.setCell ⟨b, r * 5, none⟩ (.int .i64 c.c0)).setCell ⟨b, r * 5 + 1, none⟩ (.int .i64 c.c1)).setCell ⟨b, r * 5 + 2, none⟩ (.int .i64 c.c2)).setCell ⟨b, r * 5 + 3, none⟩ (.int .i64 c.c3)).setCell ⟨b, r * 5 + 4, none⟩ (.int .i64 c.c4)) b (Pst.hcells (Pst.upd H r c)) t := by
  rw [← Pst.hcells_set H r hr c]
  exact ((((h.set _ _).set _ _).set _ _).set _ _).set _ _
theorem hone (h : Blk w b (Pst.hcells H) t) {r : Nat} (hr : r < 5) (x : Int) : Blk (w.setCell ⟨b, r * 5 + r, none⟩ (.int .i64 x)) b (Pst.hcells (Pst.upd H r ((H r).set r x))) t := by
  rw [← Pst.hcells_one H r hr x]
  exact h.set _ _
end Blk
/-- A block of another type is not the row's own. -/
theorem own_ne {w : World} {B e sz n : Nat} {v : Value} {xs : List Value} {b : Nat} {cs : Array Value} {t : TypeId} (h : w.ownsRow B e sz v n xs) (hb : Blk w b cs t) (ht : t ≠ e) : v.ownBlock ≠ some b := fun he => by
  rcases h.2 with ⟨rfl, _⟩ | ⟨g, cap, cur, rfl, _, hg, _⟩
  · cases he
  · simp only [Value.ownBlock, Option.some.injEq] at he
    subst he
    unfold Blk at hb
    rw [hg] at hb
    injection hb with hb
    injection hb with _ hb
    exact ht hb.symm
theorem own_keep {w w' : World} {B e sz n : Nat} {v : Value} {xs : List Value} (h : w.ownsRow B e sz v n xs) (hk : ∀ k, v.ownBlock = some k → w'.heap[k]? = w.heap[k]?) : w'.ownsRow B e sz v n xs := by
  refine ⟨h.1, ?_⟩
  rcases h.2 with h2 | ⟨g, cap, cur, rfl, hg, hgg, r⟩
  · exact Or.inl h2
  · exact Or.inr ⟨g, cap, cur, rfl, hg, by rw [hk g rfl]; exact hgg, r⟩
def set5 (w : World) (b o : Nat) (c : Ck) : World := ((((w.setCell ⟨b, o, none⟩ (.int .i64 c.c0)).setCell ⟨b, o + 1, none⟩ (.int .i64 c.c1)).setCell ⟨b, o + 2, none⟩ (.int .i64 c.c2)).setCell ⟨b, o + 3, none⟩ (.int .i64 c.c3)).setCell ⟨b, o + 4, none⟩ (.int .i64 c.c4)
theorem set5_heap (w : World) (b o : Nat) (c : Ck) (k : Nat) (h : k ≠ b) : (set5 w b o c).heap[k]? = w.heap[k]? := by
  unfold set5
  rw [Below.heap_setCell _ _ _ k h, Below.heap_setCell _ _ _ k h, Below.heap_setCell _ _ _ k h, Below.heap_setCell _ _ _ k h, Below.heap_setCell _ _ _ k h]
theorem set5_below {B : Nat} {w0 w : World} (h : Below B w0 w) {b : Nat} (hb : B ≤ b) (o : Nat) (c : Ck) : Below B w0 (set5 w b o c) :=
  ((((h.setCell (p := ⟨b, o, none⟩) hb _).setCell (p := ⟨b, o + 1, none⟩) hb _).setCell (p := ⟨b, o + 2, none⟩) hb _).setCell (p := ⟨b, o + 3, none⟩) hb _).setCell (p := ⟨b, o + 4, none⟩) hb _
def evFact (e : Ev) : Lex.Fact := fun v w => ∃ b, v = .slice (some ⟨b, 0, none⟩) 1 1 ∧ Blk w b e.cells 51
theorem evFact_up (e : Ev) : Lex.UpC (evFact e) := fun v w w' hu h => by
  obtain ⟨b, rfl, hb⟩ := h
  exact ⟨b, rfl, hb.up hu⟩
theorem ev_made (w : World) (e : Ev) : Lex.Up w (w.alloc (.cells e.cells 51)) ∧ evFact e (.slice (some ⟨w.heap.size, 0, none⟩) 1 1) (w.alloc (.cells e.cells 51)) :=
  ⟨(Below.refl _ _).alloc (Nat.le_refl _) _, w.heap.size, rfl, Blk.new w _ _⟩
theorem evFact_sl {e : Ev} {w : World} {b : Nat} (h : Blk w b e.cells 51) : Sl w 12 (some ⟨b, 0, none⟩) 1 1 (evc [e]) := Sl.of_blk (t := 51) (by rw [evc_one]; exact h) (by rw [evc_one]; rfl) (by decide)
theorem wpList_val {P : Program} {ops : Array Oper} {Q : Exit → Act → World → Prop} {o : Oper} {rest : List Oper} {a : Act} {w w' : World} {v : Value} (hg : o.guard = none) (h : (execOp a.eval o).run P w = .ok (.value v) w')
    (k : wpList P ops Q rest (a.put o.dst v) w') : wpList P ops Q (o :: rest) a w :=
  wpList_plain hg fun K hK => by unfold Oper.wp; rw [h]; exact hK _ _ k
theorem wpList_skp {P : Program} {ops : Array Oper} {Q : Exit → Act → World → Prop} {o : Oper} {rest : List Oper} {a : Act} {w w' : World} (hg : o.guard = none) (h : (execOp a.eval o).run P w = .ok .skip w')
    (k : wpList P ops Q rest (a.put o.dst undef) w') : wpList P ops Q (o :: rest) a w :=
  wpList_plain hg fun K hK => by unfold Oper.wp; rw [h]; exact hK _ _ k
def have0 : Array Value := Pst.hcells fun _ => Ck.zero
theorem have_info : (Try.prog.info? 94).map (fun i => (i.zero, i.size)) = some (some (.agg have0), 25) := by kernel_rfl
theorem have_bi (w : World) : (Instr.build 94 #[]).run Try.prog w = .ok (.agg have0) w := by
  have hz := (zero_of_info (P := Try.prog) have_info).1 w
  have u := Try.underlying94
  have z := Try.sizeOf23 w
  simp [Instr.build, hz, run_underlying u, z, Value.cells, Result.andThen, Instr.fill]
theorem have_al (w : World) : (Instr.alloc 94 true (.tuple #[])).run Try.prog w = .ok (.pointer (some ⟨w.heap.size, 0, none⟩)) (w.alloc (.cells have0 94)) := by
  have hz := (zero_of_info (P := Try.prog) have_info).1 w
  simp only [Instr.alloc, hz, newVar, newRow, Value.cells, Sem.run_bind, Result.andThen_ok, Sem.run_pure, run_newObj]
  rfl
theorem have_st (w : World) : (Instr.storeAt 94 (.pointer (some ⟨w.heap.size, 0, none⟩)) (.agg have0)).run Try.prog (w.alloc (.cells have0 94)) = .ok () (w.alloc (.cells have0 94)) :=
  run_storeAt_new w _ have0 have0 ((zero_of_info (P := Try.prog) have_info).2.trans rfl) rfl (by simp [have0, Pst.hcells, Ck.zero, Value.oneCell'])
theorem build_have (f : Operand → Value) (w : World) {d : Option Tmp} {ty : TypeId} {ps : String} {af : Array Edge} {g : Option (Nat × Bool)} : (execOp f ⟨d, .build 94 #[], ty, ps, af, g⟩).run Try.prog w = .ok (.value (.agg have0)) w := by
  simp [execOp, have_bi, Result.andThen]
theorem alloc_have (f : Operand → Value) (w : World) {d : Option Tmp} {ty : TypeId} {ps : String} {af : Array Edge} {g : Option (Nat × Bool)} : (execOp f ⟨d, .alloc 94, ty, ps, af, g⟩).run Try.prog w = .ok (.value (.pointer (some ⟨w.heap.size, 0, none⟩))) (w.alloc (.cells have0 94)) := by
  simp [execOp, have_al, Result.andThen]
theorem store_have (f : Operand → Value) (w : World) {d : Option Tmp} {ty : TypeId} {ps : String} {af : Array Edge} {g : Option (Nat × Bool)} {x y : Operand} (hx : f x = .pointer (some ⟨w.heap.size, 0, none⟩)) (hy : f y = .agg have0) :
    (execOp f ⟨d, .store 94 x y, ty, ps, af, g⟩).run Try.prog (w.alloc (.cells have0 94)) = .ok .skip (w.alloc (.cells have0 94)) := by
  simp only [execOp, hx, hy, Sem.run_bind, have_st, Result.andThen_ok, Sem.run_pure]
def MakeRel (n s : Nat) (W : World) (v3 v5 : Value) (wr : World) : Prop :=
  ∃ (k : Nat) (es : List Ev) (H : Nat → Ck), k ≤ n ∧ es.length ≤ k ∧ v5 = .int .i64 k ∧ Hid (Pst.Made es H) ∧ Hid (wr.ownsRow s 51 12 v3 es.length (evc es)) ∧ Hid (Blk wr (s + 1) (Pst.hcells H) 94) ∧ Hid (Below s W wr)

set_option maxHeartbeats 4000000 in
theorem make_any (cs : List Ch) (A : Option Addr) (n cap : Nat) (w : World) (h : ChSl w A n cap cs) (hok : ∀ c ∈ cs, Ch.Ok c) (hn : n ≤ 1000) :
    Calls Try.prog 33 #[.slice A n cap] w fun x w' => (∃ (es : List Ev) (H : Nat → Ck) (v : Value), x = .returned v ∧ Pst.Made es H ∧ es.length ≤ n ∧ w'.ownsRow w.heap.size 51 12 v es.length (evc es)) ∧ Lex.Up w w' := by
  have CJ := Lib.hid (fun a b w => rjoin_any a b w)
  have CF := Lib.hid (fun x w h1 h2 => fit_any x w h1 h2)
  have CH := Lib.hid (fun es c A n cap w h => rheight_any es c A n cap w h)
  have SL := Lib.hid (fun w' (hu : Lex.Up w w') => ChSl.up h hu)
  have AD := Lib.hid h.addr
  have hl := h.len
  have HL := Lib.hid hl
  have OK := Lib.hid (show ∀ k, k < n → Ch.Ok (Ch.nth cs k) from fun k hk => hok _ (by
    have : k < cs.length := by omega
    simp [Ch.nth, this]))
  unfold Ck.val at CJ CH
  unfold Ed.val at CF
  have O0 := Lib.hid ((World.ownsRow_made (base := w.heap.size) (e := 51) (size := 12) w #[] 0 (Nat.le_refl _) (Nat.zero_le _) rfl).alloc (.cells (Pst.hcells fun _ => Ck.zero) 94))
  have B0 := Lib.hid (Blk.new (w.alloc (.cells #[] 51)) (Pst.hcells fun _ => Ck.zero) 94)
  have U0 := Lib.hid (show Below w.heap.size w ((w.alloc (.cells #[] 51)).alloc (.cells (Pst.hcells fun _ => Ck.zero) 94)) from ((Below.refl _ _).alloc (Nat.le_refl _) _).alloc (by simp) _)
  clear h hl hok
  go_enter Try.func33, Try.ntmps33
  go_upto_region 2 with (fail)
  refine wp_named (fun W1 hW1 => ?_)
  have hW1' : W1 = w.alloc (.cells #[] 51) := hW1
  rw [← hW1'] at O0 B0 U0
  have hs1 : W1.heap.size = w.heap.size + 1 := by rw [hW1']; simp
  clear hW1 hW1'
  refine wp_region_lit ?_
  refine wpList_val rfl (build_have _ W1) ?_
  refine wpList_val rfl (alloc_have _ W1) ?_
  refine wpList_skp rfl (store_have _ W1 rfl rfl) ?_
  refine wpList_nil ?_
  simp only [Act.put, List.setIfInBounds_toArray, List.set_cons_zero, List.set_cons_succ]
  simp only [hs1]
  have OW := O0.out
  obtain ⟨W, hW⟩ : ∃ W, W = W1.alloc (.cells have0 94) := ⟨_, rfl⟩
  have e0 : W1.alloc (.cells (Pst.hcells fun _ => Ck.zero) 94) = W := hW.symm
  rw [e0] at O0 B0 U0
  rw [← hW]
  rw [hs1] at B0
  clear hW e0 OW hs1
  go_wp2
  go_loopw [3, 5] (fun v3 v5 wr => MakeRel n w.heap.size w v3 v5 wr) (fun _ v _ => n - (intOf v).toNat)
  case atStart => exact ⟨0, [], fun _ => Ck.zero, by omega, by simp, rfl, Lib.hid .nil, by simpa [evc] using O0, B0, U0⟩
  case round =>
    obtain ⟨k, es, H, hk, hek, rfl, MD, OW, HB, UU⟩ := hrel
    obtain ⟨A3, cap3, rfl, SX3⟩ := Sl.of_own OW.out
    have S3 := Lib.hid SX3
    clear O0 B0 U0 SX3
    by_cases h5 : k < n
    · have h5' : (k : Int) < n := by omega
      obtain ⟨b, off, rfl⟩ := AD.out (by omega)
      have CA := Lib.hid (fun w' (hu : Lex.Up wr w') => ch_at (SL.out w' (UU.out.trans (hu.mono UU.out.size))) h5)
      obtain ⟨o1, o2, o3, o4⟩ := OK.out k h5
      generalize hg : Ch.nth cs k = ch at CA o1 o2 o3 o4
      obtain ⟨cr, cf, cy, ed⟩ := ch
      clear hg
      simp only at o1 o2 o3 o4
      obtain ⟨r, hr, hr5⟩ : ∃ r : Nat, ((cr : Int)).tmod 5 = (r : Int) ∧ r < 5 := ⟨cr % 5, by rw [Int.tmod_eq_emod_of_nonneg (by omega)]; omega, by omega⟩
      obtain ⟨f, hf, hf5⟩ : ∃ f : Nat, ((cf : Int)).tmod 5 = (f : Int) ∧ f < 5 := ⟨cf % 5, by rw [Int.tmod_eq_emod_of_nonneg (by omega)]; omega, by omega⟩
      obtain ⟨e0, e1, e2, e3, e4, e5, e6⟩ := CA.out wr (Lex.Up.refl wr)
      simp only at e0 e1 e2 e3 e4 e5 e6
      have hr5' : (r : Int) < 5 := by omega
      have hf5' : (f : Int) < 5 := by omega
      cases cy
      · have C9 := Lib.hid (fun w => CF.out ed w o3 o4)
        have LW := Lib.hid (Pst.made_low MD.out r r hr5)
        clear CF CJ
        go_wp2_with fail
        refine (C9.out _).mono ?_
        rintro x w2 ⟨y, hy, rfl, hb⟩
        have U2 := Lib.hid (show Below w.heap.size w w2 from UU.out.trans (hb.mono UU.out.size))
        have O2 := Lib.hid (own_up OW.out hb)
        have S2 := Lib.hid (S3.out.up hb)
        have H2 := Lib.hid (HB.out.up hb)
        have MD2 := Lib.hid (Pst.Made.edit MD.out r y hr5 hy)
        clear hb hy UU OW S3 HB MD C9 e0 e1 e2 e3 e4 e5 e6 CA o1 o2 o3 o4
        go_upto_region 10 with (fail)
        refine wp_named (fun W9 hW => ?_)
        have KY := Lib.hid (show Blk W9 w2.heap.size y.cells 96 by rw [hW]; exact Blk.new w2 y.cells _)
        have O9 := Lib.hid (show W9.ownsRow w.heap.size 51 12 (.slice A3 es.length cap3) es.length (evc es) by rw [hW]; exact O2.out.alloc _)
        have S9 := Lib.hid (show EvSl W9 A3 es.length cap3 es by rw [hW]; exact S2.out.up ((Below.refl _ _).alloc (Nat.le_refl _) _))
        have H9 := Lib.hid (show Blk W9 (w.heap.size + 1) (Pst.hcells H) 94 by rw [hW]; exact H2.out.alloc _)
        have U9 := Lib.hid (show Below w.heap.size w W9 by rw [hW]; exact U2.out.alloc U2.out.size _)
        clear hW O2 S2 H2 U2
        have C10 := Lib.hid (fun w' (hu : Lex.Up W9 w') => CH.out es (H r) A3 es.length cap3 w' (S9.out.up hu))
        clear CH
        have EO := Lib.hid (show Pst.evOf es H r y = ⟨r, (H r).get r + 1, H r, Pst.hgt es (H r), y.k, y.key, y.l, y.v⟩ from rfl)
        have HR := Lib.hid (fun w' (hu : Lex.Up W9 w') => (H9.out.up hu).hv hr5)
        have H1 := Lib.hid (fun w' (hu : Lex.Up W9 w') => (H9.out.up hu).h1 hr5)
        have hx0 := LW.out.1
        have hx1 : (H r).get r ≤ 1000 := by have := LW.out.2; omega
        have HSET := Lib.hid (fun (w' : World) (hb : Blk w' (w.heap.size + 1) (Pst.hcells H) 94) => hb.hone hr5 ((H r).get r + 1))
        generalize Pst.upd H r ((H r).set r ((H r).get r + 1)) = H' at MD2 HSET
        generalize Pst.evOf es H r y = e at MD2 EO
        generalize hx0e : (H r).get r = x0 at *
        generalize hca : H r = ca at *
        generalize Pst.hgt es ca = g at *
        have hw1 : IntKind.i64.wrap (x0 + 1) = x0 + 1 := by rw [IntKind.wrap_i64]; omega
        refine Lex.wp_region_lex_tail 26 (by kernel_rfl) (by kernel_rfl) (by kernel_rfl) (by rfl) ?_
        simp only [List.take_succ_cons, List.take_zero, List.drop_succ_cons, List.drop_zero]
        repeat (first | (refine Lex.lex_skip (by rfl) (by rfl) (by rfl) ?_; simp only [Act.put, List.setIfInBounds_toArray, List.set_cons_zero, List.set_cons_succ]) | (refine Lex.lex_pure (c := ?_) (by rfl) (by rfl) (fun w' hC => ?_) (by rfl) ?_; rotate_left 1; (obtain ⟨b0, b1, b2, b3, b4⟩ := HR.out w' hC; have bx := H1.out w' hC; obtain ⟨y0, y1, y2, y3⟩ := (KY.out.up hC).ed; go_simp; rfl); simp only [Act.put, List.setIfInBounds_toArray, List.set_cons_zero, List.set_cons_succ]))
        refine Lex.lex_callv (f := 27) (args := #[.slice A3 es.length cap3, .agg #[.int .i64 ca.c0, .int .i64 ca.c1, .int .i64 ca.c2, .int .i64 ca.c3, .int .i64 ca.c4]]) (.int .i64 g) (by rfl) (by rfl) (fun w' => by go_simp) (fun w' hC => C10.out w' hC) (by rfl) ?_
        simp only [Act.put, List.setIfInBounds_toArray, List.set_cons_zero, List.set_cons_succ]
        repeat (first | (refine Lex.lex_skip (by rfl) (by rfl) (by rfl) ?_; simp only [Act.put, List.setIfInBounds_toArray, List.set_cons_zero, List.set_cons_succ]) | (refine Lex.lex_pure (c := ?_) (by rfl) (by rfl) (fun w' hC => ?_) (by rfl) ?_; rotate_left 1; (obtain ⟨b0, b1, b2, b3, b4⟩ := HR.out w' hC; have bx := H1.out w' hC; obtain ⟨y0, y1, y2, y3⟩ := (KY.out.up hC).ed; go_simp; rfl); simp only [Act.put, List.setIfInBounds_toArray, List.set_cons_zero, List.set_cons_succ]))
        refine Lex.lex_make (v := fun w => .slice (some ⟨w.heap.size, 0, none⟩) 1 1) (f := fun w => w.alloc (.cells #[.int .i64 r, .int .i64 (x0 + 1), .int .i64 ca.c0, .int .i64 ca.c1, .int .i64 ca.c2, .int .i64 ca.c3, .int .i64 ca.c4, .int .i64 g, .int .i64 y.k, .string y.key, .int .i64 y.l, .string y.v] 51)) 74 (evFact e) (by rfl) (by rfl) (by rfl) (evFact_up _) (fun w' hC => ?_) (fun w' _ => by have := ev_made w' e; rw [EO.out] at this ⊢; exact this) (by rfl) ?_
        · have := hC; clear this; go_simp
        refine Lex.lex_nil (fun w5 hC => ?_)
        simp only [Lex.fill]
        rintro v9 ⟨bx, rfl, hbx⟩
        have SX := Lib.hid (evFact_sl hbx)
        have O5 := Lib.hid (own_up O9.out hC)
        have U5 := Lib.hid (show Below w.heap.size w w5 from U9.out.trans (hC.mono U9.out.size))
        have H5 := Lib.hid (H9.out.up hC)
        have N5 := Lib.hid (own_ne O5.out H5.out (by decide))
        have B5 := Lib.hid (own_base O5.out)
        have Z5 : w.heap.size ≤ w5.heap.size := U5.out.size
        clear hC hbx O9 U9 S9 H9 C10 HR H1 KY
        change wpList _ _ _ _ _ w5
        go_wp2_with (at_builtin; refine ESe.wpList_append (by rfl) _ _ rfl w.heap.size _ es.length (evc es) rfl O5.out (some ⟨bx, 0, none⟩) 1 1 (evc [e]) rfl SX.out (evc_one' _) (by omega) (by simp only [maxLen]; omega) Z5 ?_)
        intro v6 w6 hown hg
        have O6 := Lib.hid (show w6.ownsRow w.heap.size 51 12 v6 (es ++ [e]).length (evc (es ++ [e])) by rw [evc_append, List.length_append]; exact hown)
        have U6 := Lib.hid (show Below w.heap.size w w6 from Below.grown U5.out hg Z5 B5.out)
        have H6 := Lib.hid (show Blk w6 (w.heap.size + 1) (Pst.hcells H) 94 by
          unfold Blk
          rw [hg.block _ H5.out.lt (fun q => N5.out q.symm)]
          exact H5.out)
        have N6 := Lib.hid (own_ne O6.out H6.out (by decide))
        clear hown hg O5 U5 H5 N5 B5 Z5 SX
        go_upto_region 11 with (fail)
        refine wp_named (fun W11 hW => ?_)
        rw [show w6 = W11 from hW.symm] at O6 U6 H6
        clear hW
        have hx := H6.out.h1 hr5
        rw [hca, hx0e] at hx
        have fz := H6.out.frozen (r * 5 + r)
        have O7 := Lib.hid (show ((W11.drew).setCell ⟨w.heap.size + 1, r * 5 + r, none⟩ (.int .i64 (x0 + 1))).ownsRow w.heap.size 51 12 v6 (es ++ [e]).length (evc (es ++ [e])) from own_keep (w := W11.drew) O6.out (fun q hq => Below.heap_setCell _ _ _ _ (fun z => N6.out (by rw [hq, z]))))
        have U7 := Lib.hid (show Below w.heap.size w ((W11.drew).setCell ⟨w.heap.size + 1, r * 5 + r, none⟩ (.int .i64 (x0 + 1))) from U6.out.drew.setCell (Nat.le_succ _) _)
        have H7 := Lib.hid (HSET.out W11.drew H6.out)
        clear O6 U6 H6 HSET N6
        refine wp_region_still_tail 10 (by kernel_rfl) (by kernel_rfl) ?_
        simp only [List.take_succ_cons, List.take_zero, List.drop_succ_cons, List.drop_zero]
        change wpStill _ _ W11.drew _ _ _
        repeat still_step
        refine wpStill_nil ?_
        change wpList _ _ _ _ _ W11.drew
        go_wp2
        go_roundw
        case rel => exact ⟨k + 1, es ++ [e], H', by omega, by simp; omega, by go_num, MD2, O7, H7, U7⟩
        case measure => simp [intOf]; omega
      · have MD2 := Lib.hid (Pst.Made.sync MD.out r f hr5 hf5)
        have CJ2 := Lib.hid (fun w => CJ.out (H r) (H f) w)
        have N3 := Lib.hid (own_ne OW.out HB.out (by decide))
        generalize Ck.join (H r) (H f) = j at *
        clear CJ CF CH
        have hwf : IntKind.i64.wrap (cf : Int) = cf := by rw [IntKind.wrap_i64]; omega
        go_upto_region 8 with (fail)
        refine Lex.wp_region_lex_tail 15 (by kernel_rfl) (by kernel_rfl) (by kernel_rfl) (by rfl) ?_
        simp only [List.take_succ_cons, List.take_zero, List.drop_succ_cons, List.drop_zero]
        repeat (first | (refine Lex.lex_skip (by rfl) (by rfl) (by rfl) ?_; simp only [Act.put, List.setIfInBounds_toArray, List.set_cons_zero, List.set_cons_succ]) | (refine Lex.lex_pure (c := ?_) (by rfl) (by rfl) (fun w' hC => ?_) (by rfl) ?_; rotate_left 1; (obtain ⟨e0, e1, e2, e3, e4, e5, e6⟩ := CA.out w' hC; obtain ⟨b0, b1, b2, b3, b4⟩ := (HB.out.up hC).hv hr5; obtain ⟨c0, c1, c2, c3, c4⟩ := (HB.out.up hC).hv hf5; go_simp; rfl); simp only [Act.put, List.setIfInBounds_toArray, List.set_cons_zero, List.set_cons_succ]))
        refine Lex.lex_callv (f := 66) (args := #[.agg #[.int .i64 (H r).c0, .int .i64 (H r).c1, .int .i64 (H r).c2, .int .i64 (H r).c3, .int .i64 (H r).c4], .agg #[.int .i64 (H f).c0, .int .i64 (H f).c1, .int .i64 (H f).c2, .int .i64 (H f).c3, .int .i64 (H f).c4]]) (.agg #[.int .i64 j.c0, .int .i64 j.c1, .int .i64 j.c2, .int .i64 j.c3, .int .i64 j.c4]) (by rfl) (by rfl) (fun w' => by go_simp) (fun w' hC => CJ2.out w') (by rfl) ?_
        simp only [Act.put, List.setIfInBounds_toArray, List.set_cons_zero, List.set_cons_succ]
        repeat (first | (refine Lex.lex_skip (by rfl) (by rfl) (by rfl) ?_; simp only [Act.put, List.setIfInBounds_toArray, List.set_cons_zero, List.set_cons_succ]) | (refine Lex.lex_pure (c := ?_) (by rfl) (by rfl) (fun w' hC => ?_) (by rfl) ?_; rotate_left 1; (go_simp; rfl); simp only [Act.put, List.setIfInBounds_toArray, List.set_cons_zero, List.set_cons_succ]))
        refine Lex.lex_nil (fun w5 hC => ?_)
        simp only [Lex.fill]
        have O5 := Lib.hid (show (set5 w5 (w.heap.size + 1) (r * 5) j).ownsRow w.heap.size 51 12 (.slice A3 es.length cap3) es.length (evc es) from own_keep (own_up OW.out hC) (fun k hk => set5_heap _ _ _ _ _ (fun q => N3.out (by rw [hk, q]))))
        have U5 := Lib.hid (show Below w.heap.size w (set5 w5 (w.heap.size + 1) (r * 5) j) from set5_below (UU.out.trans (hC.mono UU.out.size)) (Nat.le_succ _) _ _)
        have H5 := Lib.hid (show Blk (set5 w5 (w.heap.size + 1) (r * 5) j) (w.heap.size + 1) (Pst.hcells (Pst.upd H r j)) 94 from (HB.out.up hC).hset hr5 j)
        obtain ⟨b0, b1, b2, b3, b4⟩ := (HB.out.up hC).hv hr5
        have fr := (HB.out.up hC).frozen
        have f0 := fr (r * 5); have f1 := fr (r * 5 + 1); have f2 := fr (r * 5 + 2); have f3 := fr (r * 5 + 3); have f4 := fr (r * 5 + 4)
        clear fr hC CA HB UU OW S3 CJ2 e0 e1 e2 e3 e4 e5 e6
        change wpList _ _ _ _ _ w5
        go_wp2
        go_roundw
        case rel => exact ⟨k + 1, es, Pst.upd H r j, by omega, by omega, by go_num, MD2, O5, H5, U5⟩
        case measure => simp [intOf]; omega
    · obtain rfl : k = n := by omega
      clear CJ CF CH
      go_wp2
      go_ret
      exact ⟨⟨es, H, _, rfl, MD.out, hek, OW.out⟩, UU.out⟩
end Go.Proofs.Ythgfbnkggdlokaa
