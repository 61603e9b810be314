/-
  The walks of event.written, and of what it hands back.
-/
import Derived.Test.YthgfbnkggdlokaaEvR
namespace Go.Proofs.Ythgfbnkggdlokaa
open Go.RowKit
set_option maxRecDepth 100000

section
variable {α : Type}
theorem LeafAt.up {lo hi lo' hi' : Nat} {w0 w1 : World} {F : Value} {p : Addr} {enc : α → Value} {R : List Nat → α × Nat × Nat} (h : LeafAt lo hi w0 F p enc R) (hu : Lex.Up w0 w1) (hh : hi ≤ w0.heap.size) (h1 : lo' ≤ lo) (h2 : hi ≤ hi') : LeafAt lo' hi' w1 F p enc R :=
  h.later (Keep.up hu hh) h1 h2
end
theorem fK {lo hi b : Nat} {w : World} {F : Value} {R : List Nat → Nat × Nat × Nat} (h : LeafAt lo hi w F ⟨b, 8, none⟩ (fun m : Nat => .int .i64 (m : Nat)) R) (pre : Ev → Prop) : FieldOk b lo hi w F (Fl.leaf R Fl.setK) pre := h.field (fun _ => ⟨_, rfl⟩) (fun _ _ => rfl) pre
theorem fR {lo hi b : Nat} {w : World} {F : Value} {R : List Nat → Nat × Nat × Nat} (h : LeafAt lo hi w F ⟨b, 0, none⟩ (fun m : Nat => .int .i64 (m : Nat)) R) (pre : Ev → Prop) : FieldOk b lo hi w F (Fl.leaf R Fl.setR) pre := h.field (fun _ => ⟨_, rfl⟩) (fun _ _ => rfl) pre
theorem fN {lo hi b : Nat} {w : World} {F : Value} {R : List Nat → Nat × Nat × Nat} (h : LeafAt lo hi w F ⟨b, 1, none⟩ (fun m : Nat => .int .i64 (m : Nat)) R) (pre : Ev → Prop) : FieldOk b lo hi w F (Fl.leaf R Fl.setN) pre := h.field (fun _ => ⟨_, rfl⟩) (fun _ _ => rfl) pre
theorem fH {lo hi b : Nat} {w : World} {F : Value} {R : List Nat → Nat × Nat × Nat} (h : LeafAt lo hi w F ⟨b, 7, none⟩ (fun m : Nat => .int .i64 (m : Nat)) R) (pre : Ev → Prop) : FieldOk b lo hi w F (Fl.leaf R Fl.setH) pre := h.field (fun _ => ⟨_, rfl⟩) (fun _ _ => rfl) pre
theorem fL {lo hi b : Nat} {w : World} {F : Value} {R : List Nat → Nat × Nat × Nat} (h : LeafAt lo hi w F ⟨b, 10, none⟩ (fun m : Nat => .int .i64 (m : Nat)) R) (pre : Ev → Prop) : FieldOk b lo hi w F (Fl.leaf R Fl.setL) pre := h.field (fun _ => ⟨_, rfl⟩) (fun _ _ => rfl) pre
theorem fKey {lo hi b : Nat} {w : World} {F : Value} {R : List Nat → ByteArray × Nat × Nat} (h : LeafAt lo hi w F ⟨b, 9, none⟩ Value.string R) (pre : Ev → Prop) : FieldOk b lo hi w F (Fl.leaf R Fl.setKey) pre := h.field (fun _ => ⟨_, rfl⟩) (fun _ _ => rfl) pre
theorem fV {lo hi b : Nat} {w : World} {F : Value} {R : List Nat → ByteArray × Nat × Nat} (h : LeafAt lo hi w F ⟨b, 11, none⟩ Value.string R) (pre : Ev → Prop) : FieldOk b lo hi w F (Fl.leaf R Fl.setV) pre := h.field (fun _ => ⟨_, rfl⟩) (fun _ _ => rfl) pre
theorem fC {lo hi b j : Nat} (hj : j < 5) {w : World} {F : Value} {R : List Nat → Nat × Nat × Nat} (h : LeafAt lo hi w F ⟨b, 2 + j, none⟩ (fun m : Nat => .int .i64 (m : Nat)) R) (pre : Ev → Prop) : FieldOk b lo hi w F (Fl.leaf R (Fl.setC j)) pre := by
  refine h.field (fun e => ?_) (fun x e => ?_) pre
  · match j, hj with
    | 0, _ | 1, _ | 2, _ | 3, _ | 4, _ => exact ⟨_, rfl⟩
  · match j, hj with
    | 0, _ | 1, _ | 2, _ | 3, _ | 4, _ => rfl
theorem val_below (s : ByteArray) (W : World) : Calls Try.prog 129 #[.string s] W fun x w' => x = .returned (.int .i64 (Tx.value s)) ∧ Below W.heap.size W w' := up_same (value_any s W)

/-- The two fields of a write, as functions in a row. -/
def wrFs : List Fl := [Fl.leaf (Fl.octR 0 1) Fl.setL, Fl.leaf (Fl.wrdR 12 Tx.value) Fl.setV]
theorem wr_row {b lo : Nat} {w2 w3 : World} {g1 g2 : Nat} {c1 c2 : Array Value} {lo1 lo2 : Nat} (h1 : LeafAt lo1 w2.heap.size w2 (.func (.func g1) #[] c1) ⟨b, 10, none⟩ (fun m : Nat => .int .i64 (m : Nat)) (Fl.octR 0 1))
    (h2 : LeafAt lo2 w3.heap.size w3 (.func (.func g2) #[] c2) ⟨b, 11, none⟩ Value.string (Fl.wrdR 12 Tx.value)) (hu : Lex.Up w2 w3) (hb : b < lo) (hl1 : lo ≤ lo1) (hl2 : lo ≤ lo2) (hw : lo ≤ w3.heap.size) (t : TypeId) :
    Calls Try.prog 121 #[.slice (some ⟨w3.heap.size, 0, none⟩) 2 2] (w3.alloc (.cells #[.func (.func g1) #[] c1, .func (.func g2) #[] c2] t)) fun x w' =>
      ∃ F, x = .returned F ∧ Lex.Up (w3.alloc (.cells #[.func (.func g1) #[] c1, .func (.func g2) #[] c2] t)) w' ∧ FieldOk b lo w'.heap.size w' F (Fl.row wrFs) (fun _ => True) := by
  have hsz : (w3.alloc (.cells #[.func (.func g1) #[] c1, .func (.func g2) #[] c2] t)).heap.size = w3.heap.size + 1 := by simp
  have hua := up_blk (cs := #[.func (.func g1) #[] c1, .func (.func g2) #[] c2]) (t := t) (Lex.Up.refl w3)
  have hB := Blk.new w3 #[.func (.func g1) #[] c1, .func (.func g2) #[] c2] t
  refine row_any b lo (w3.heap.size + 1) _ [.func (.func g1) #[] c1, .func (.func g2) #[] c2] wrFs (fun _ => True) ?_ w3.heap.size 0 2 hb (by rw [hsz]; exact Nat.le_refl _) hw (by omega) (fun j F hj => ?_) (by simp)
  · refine ⟨fL (h1.up (hu.trans hua) (Nat.le_refl _) hl1 ?_) _, Fl.leaf_le (Fl.octR_le 0 1), fun _ => True, fun _ _ _ _ => trivial, fV (h2.up hua (Nat.le_refl _) hl2 (by omega)) _, Fl.leaf_le (Fl.wrdR_le 12 Tx.value), fun _ => True, fun _ _ _ _ => trivial, trivial⟩
    have := hu.size; omega
  · rw [Nat.zero_add]
    exact hB.cell (by simpa using hj)

set_option maxRecDepth 100000 in
set_option maxHeartbeats 2000000 in
theorem written1_any (b bx : Nat) (w : World) (hbx : w.cell? ⟨bx, 0, none⟩ = some (.pointer (some ⟨b, 0, none⟩))) (e : Ev) (hb : Blk w b e.cells 51) (A : Option Addr) (n cap : Nat) (xs : List Nat) (hs : SlcB b w A n cap xs) :
    Calls Try.prog 137 #[.slice A n cap, .pointer (some ⟨bx, 0, none⟩)] w fun x w' => x = .returned (.tuple #[.int .i64 ((Fl.writtenF e xs).2.1 : Nat), .int .i64 ((Fl.writtenF e xs).2.2 : Nat)]) ∧
      Blk w' b (Fl.writtenF e xs).1.cells 51 ∧ w.grownBy w' (some b) := by
  have CW := Lib.hid (fun w => isWrite_any e.k w)
  have CO := Lib.hid (fun p w => octet_any p 0 1 w)
  have eg := enters Try.func129 (by kernel_rfl) rfl
  have CS := Lib.hid (fun p w => words_any p 12 129 Tx.value val_below eg w)
  have e0 : Fl.writtenF e xs = if Ev.isW e.k then Fl.row wrFs e xs else (e, 0, 0) := rfl
  obtain ⟨R, hR⟩ : ∃ R, Fl.writtenF e xs = R := ⟨_, rfl⟩
  rw [hR]
  rw [hR] at e0
  clear hR eg
  have hk : w.cell? ⟨b, 8, none⟩ = some (.int .i64 e.k) := hb.cell rfl
  have lx : bx < w.heap.size := World.block_lt_of_cell? w _ hbx
  have lb : b < w.heap.size := hb.lt
  have HX := Lib.hid hbx
  have HB := Lib.hid hb; have HS := Lib.hid hs
  clear hb hs
  generalize Ev.isW e.k = wk at *
  go_enter Try.func137, Try.ntmps137
  go_wp2_with fail
  refine (CW.out _).mono ?_
  rintro x w1 ⟨rfl, rfl⟩
  cases wk
  · rw [if_neg (by decide)] at e0
    have HR := Lib.hid e0; clear e0
    go_wp2
    go_ret2
    rw [HR.out]
    exact ⟨rfl, HB.out, World.grownBy.refl _ _⟩
  · rw [if_pos rfl] at e0
    have HR := Lib.hid e0; clear e0
    go_wp2
    go_region_law (first
      | (refine step_callx (by rfl) (CO.out ⟨b, 10, none⟩ _) (by go_simp) ?_
         rintro x w2 ⟨F1, rfl, hu2, hl2⟩
         obtain ⟨g1, caps1, rfl, -⟩ := id hl2
         refine ⟨_, rfl, ?_⟩
         have U2 := Lib.hid ((Lex.Up.drew w1).trans hu2)
         have L2 := Lib.hid (show LeafAt w1.heap.size w2.heap.size w2 (.func (.func g1) #[] caps1) ⟨b, 10, none⟩ (fun m : Nat => .int .i64 (m : Nat)) (Fl.octR 0 1) from hl2)
         have q2 : w2.cell? ⟨bx, 0, none⟩ = some (.pointer (some ⟨b, 0, none⟩)) := (U2.out.cell (p := ⟨bx, 0, none⟩) lx).trans HX.out
         clear hu2 hl2)
      | (refine step_callx (by rfl) (CS.out ⟨b, 11, none⟩ w2) (by go_simp) ?_
         rintro x w3 ⟨F2, rfl, hu3, hl3⟩
         obtain ⟨g2, caps2, rfl, -⟩ := id hl3
         refine ⟨_, rfl, ?_⟩
         have U3 := Lib.hid (U2.out.trans hu3)
         have CR := Lib.hid (wr_row (lo := w1.heap.size) L2.out hl3 hu3 lb (Nat.le_refl _) U2.out.size U3.out.size 141)
         clear hu3 hl3 L2 U2 q2)
      | (refine step_callx (by rfl) CR.out (by go_simp) ?_
         rintro x w5 ⟨F5, rfl, hu5, g5, caps5, rfl, eg5, hc5⟩
         refine ⟨_, rfl, ?_⟩
         have U5 := Lib.hid ((up_blk U3.out).trans hu5)
         have C5 := Lib.hid (hc5 w5 e A n cap xs (Keep.refl _ _ _) (HB.out.up U5.out) (HS.out.by_ (up_by U5.out _)) trivial)
         clear hu5 hc5 U3 CR)
      | (refine step_callx (by rfl) C5.out (by go_simp) ?_
         rintro x w6 ⟨rfl, hb6, hg6⟩
         refine ⟨_, rfl, ?_⟩
         have B6 := Lib.hid hb6
         have G6 := Lib.hid ((up_by U5.out (some b)).trans hg6)
         clear hb6 hg6 C5 eg5))
    all_goals (go_wp2; go_ret2; rw [HR.out]; exact ⟨rfl, B6.out, G6.out⟩)
theorem written_any (b lo : Nat) (w : World) (hlo : lo ≤ w.heap.size) : Calls Try.prog 126 #[.pointer (some ⟨b, 0, none⟩)] w fun x w' => ∃ F, x = .returned F ∧ Lex.Up w w' ∧ FieldOk b lo w'.heap.size w' F Fl.writtenF (fun _ => True) := by
  have KA := Lib.hid (Blk.new w #[.pointer (some ⟨b, 0, none⟩)] 146)
  have U0 := Lib.hid (show Lex.Up w (w.alloc (.cells #[.pointer (some ⟨b, 0, none⟩)] 146)) from (Below.refl w.heap.size w).alloc (Nat.le_refl _) _)
  have eg := enters Try.func137 (by kernel_rfl) rfl
  have EG := Lib.hid eg; clear eg
  go_enter Try.func126, Try.ntmps126
  go_wp2
  go_ret
  refine ⟨_, rfl, U0.out, _, _, rfl, EG.out, fun W e A n cap xs hk hb hs _ => ?_⟩
  change Keep lo (w.alloc (.cells #[.pointer (some ⟨b, 0, none⟩)] 146)).heap.size (w.alloc (.cells #[.pointer (some ⟨b, 0, none⟩)] 146)) W at hk
  have hsz : (w.alloc (.cells #[.pointer (some ⟨b, 0, none⟩)] 146)).heap.size = w.heap.size + 1 := by simp
  rw [hsz] at hk
  exact written1_any b w.heap.size W ((hk.blk KA.out (by omega) (by omega)).cell rfl) e hb A n cap xs hs
end Go.Proofs.Ythgfbnkggdlokaa
