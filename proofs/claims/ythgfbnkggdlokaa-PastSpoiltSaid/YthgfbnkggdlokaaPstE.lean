/-
  A tally, plain, and the walk of add.
-/
import Derived.Test.YthgfbnkggdlokaaPstB
import Derived.StillTailTactics
namespace Go.Proofs.Ythgfbnkggdlokaa
open Go.RowKit
set_option maxRecDepth 100000
set_option maxRecDepth 100000

def Al.del {α : Type} : List (Mk × α) → Mk → List (Mk × α)
  | [], _ => []
  | (k, x) :: l, m => if m = k then Al.del l m else (k, x) :: Al.del l m
theorem Al.get_del {α : Type} (l : List (Mk × α)) (m k : Mk) : Al.get (Al.del l m) k = if k = m then none else Al.get l k := by
  induction l with
  | nil => simp [Al.del, Al.get]
  | cons p l ih =>
    obtain ⟨a, x⟩ := p
    rw [Al.del]
    split
    · rename_i h
      subst h
      rw [ih, Al.get]
      split <;> rfl
    · rename_i h
      rw [Al.get, ih, Al.get]
      by_cases h1 : k = a
      · subst h1
        rw [if_pos rfl, if_pos rfl, if_neg (fun e => h e.symm)]
      · rw [if_neg h1, if_neg h1]
theorem Al.del_le {α : Type} (l : List (Mk × α)) (m : Mk) : (Al.del l m).length ≤ l.length := by
  induction l with
  | nil => exact Nat.le_refl _
  | cons p l ih =>
    obtain ⟨a, x⟩ := p
    rw [Al.del]
    split
    · exact Nat.le_succ_of_le ih
    · simpa using ih
theorem Al.del_lt {α : Type} (l : List (Mk × α)) (m : Mk) (h : (Al.get l m).isSome = true) : (Al.del l m).length < l.length := by
  induction l with
  | nil => simp [Al.get] at h
  | cons p l ih =>
    obtain ⟨a, x⟩ := p
    rw [Al.del]
    rw [Al.get] at h
    split
    · exact Nat.lt_succ_of_le (Al.del_le l m)
    · rename_i hm
      rw [if_neg hm] at h
      simpa using ih h
/-- No more of one replica in a row than there are marks. -/
theorem Al.row_le {α : Type} (r : Int) : ∀ (x : Nat) (l : List (Mk × α)), (∀ j : Nat, 1 ≤ j → j ≤ x → (Al.get l ⟨r, j⟩).isSome = true) → x ≤ l.length
  | 0, _, _ => Nat.zero_le _
  | x + 1, l, h => by
    have h1 := Al.del_lt l ⟨r, (x + 1 : Nat)⟩ (h (x + 1) (by omega) (Nat.le_refl _))
    have h2 := Al.row_le r x (Al.del l ⟨r, (x + 1 : Nat)⟩) (fun j hj hx => by
      rw [Al.get_del, if_neg]
      · exact h j hj (by omega)
      · simp; omega)
    omega

namespace Pst
def tcells (b : Nat) (c : Ck) : Array Value := #[.map (some b), .int .i64 c.c0, .int .i64 c.c1, .int .i64 c.c2, .int .i64 c.c3, .int .i64 c.c4]
def mks (ms : List (Mk × Unit)) : List (Mk × Value) := Al.enc (fun _ => .bool true) ms
def isIn (ms : List (Mk × Unit)) (r n : Int) : Bool := (Al.get ms ⟨r, n⟩).isSome
/-- Of each replica all marks are there up to what a clock says, and the next one is not. -/
def Whole (ms : List (Mk × Unit)) (c : Ck) : Prop := ∀ r : Nat, r < 5 → 0 ≤ c.get r ∧ (∀ j : Int, 1 ≤ j → j ≤ c.get r → isIn ms r j = true) ∧ isIn ms r (c.get r + 1) = false
def added (ms : List (Mk × Unit)) (m : Mk) : List (Mk × Unit) := if Ck.rep m.r = true then Al.put ms m () else ms
theorem isIn_put (ms : List (Mk × Unit)) (m : Mk) (r n : Int) : isIn (Al.put ms m ()) r n = (isIn ms r n || decide (r = m.r ∧ n = m.n)) := by
  unfold isIn
  rw [Al.get_put]
  have : (⟨r, n⟩ : Mk) = m ↔ r = m.r ∧ n = m.n := Mk.ext_iff' _ _
  by_cases h : r = m.r ∧ n = m.n
  · rw [if_pos (this.2 h)]; simp [h]
  · rw [if_neg (fun e => h (this.1 e))]; simp [h]
theorem whole_zero : Whole [] Ck.zero := fun r hr => by
  refine ⟨?_, fun j h1 h2 => ?_, rfl⟩
  · match r, hr with
    | 0, _ | 1, _ | 2, _ | 3, _ | 4, _ => simp [Ck.get, Ck.zero]
  · exfalso
    match r, hr with
    | 0, _ | 1, _ | 2, _ | 3, _ | 4, _ => simp [Ck.get, Ck.zero] at h2; omega
theorem whole_le {ms : List (Mk × Unit)} {r : Nat} {x : Int} (h : ∀ j : Int, 1 ≤ j → j ≤ x → isIn ms r j = true) : x ≤ ms.length := by
  rcases Int.lt_or_le x 0 with h0 | h0
  · omega
  · have := Al.row_le (r : Int) x.toNat ms (fun j h1 h2 => h j (by omega) (by omega))
    omega
theorem get_set (c : Ck) (k j : Nat) (x : Int) (h : j < 5) : (c.set k x).get j = if j = k then x else c.get j := by
  match j, h with
  | 0, _ | 1, _ | 2, _ | 3, _ | 4, _ => simp [Ck.set, Ck.get, eq_comm]
theorem whole_put {ms : List (Mk × Unit)} {c : Ck} {k : Nat} {n x : Int} (h : Whole ms c) (h0 : 0 ≤ x) (h1 : ∀ j : Int, 1 ≤ j → j ≤ x → isIn (Al.put ms ⟨k, n⟩ ()) k j = true) (h2 : isIn (Al.put ms ⟨k, n⟩ ()) k (x + 1) = false) :
    Whole (Al.put ms ⟨k, n⟩ ()) (c.set k x) := fun r hr => by
  rw [get_set _ _ _ _ hr]
  by_cases hk : r = k
  · subst hk
    rw [if_pos rfl]
    exact ⟨h0, h1, h2⟩
  · rw [if_neg hk]
    obtain ⟨g0, g1, g2⟩ := h r hr
    refine ⟨g0, fun j a b => ?_, ?_⟩
    · rw [isIn_put, g1 j a b]; rfl
    · rw [isIn_put, g2]
      simp; intro e; omega
theorem set_get (c : Ck) (k : Nat) (hk : k < 5) : c.set k (c.get k) = c := by
  rw [Ck.ext_iff']
  match k, hk with
  | 0, _ | 1, _ | 2, _ | 3, _ | 4, _ => simp [Ck.set, Ck.get]
theorem set_set (c : Ck) (k : Nat) (x y : Int) : (c.set k x).set k y = c.set k y := by
  rw [Ck.ext_iff']
  simp only [Ck.set]
  refine ⟨?_, ?_, ?_, ?_, ?_⟩ <;> split <;> simp_all
theorem tcells_set (b : Nat) (c : Ck) (k : Nat) (hk : k < 5) (x : Int) : (tcells b c).setIfInBounds (1 + k) (.int .i64 x) = tcells b (c.set k x) := by
  match k, hk with
  | 0, _ | 1, _ | 2, _ | 3, _ | 4, _ => simp [tcells, Ck.set]
end Pst
theorem Blk.tl {w : World} {b mb : Nat} {c : Ck} {t : TypeId} (h : Blk w b (Pst.tcells mb c) t) : w.cell? ⟨b, 0, none⟩ = some (.map (some mb)) ∧ w.cell? ⟨b, 1, none⟩ = some (.int .i64 c.c0) ∧ w.cell? ⟨b, 2, none⟩ = some (.int .i64 c.c1) ∧
    w.cell? ⟨b, 3, none⟩ = some (.int .i64 c.c2) ∧ w.cell? ⟨b, 4, none⟩ = some (.int .i64 c.c3) ∧ w.cell? ⟨b, 5, none⟩ = some (.int .i64 c.c4) := ⟨h.cell rfl, h.cell rfl, h.cell rfl, h.cell rfl, h.cell rfl, h.cell rfl⟩
theorem Blk.tk {w : World} {b mb : Nat} {c : Ck} {t : TypeId} (h : Blk w b (Pst.tcells mb c) t) {k : Nat} (hk : k < 5) : w.cell? ⟨b, 1 + k, none⟩ = some (.int .i64 (c.get k)) := by
  match k, hk with
  | 0, _ | 1, _ | 2, _ | 3, _ | 4, _ => exact h.cell rfl
theorem zero_bool (w : World) : (zeroValue 4).run Try.prog w = .ok (.bool false) w := by
  have hi : (Try.prog.info? 4).map (fun i => (i.zero, i.size, i.bytes)) = some (some (.bool false), 1, 1) := by kernel_rfl
  obtain ⟨i0, hi, hz0, hz1, hz2⟩ := info_parts hi
  simp [zeroValue, typeInfo, hi, hz0]
theorem look_tl {w : World} {b : Nat} {ms : List (Mk × Unit)} (h : Mm w b (Pst.mks ms)) (r n : Int) :
    (Instr.lookup 86 (.map (some b)) (.agg #[.int .i64 r, .int .i64 n]) false).run Try.prog w = .ok (.bool (Pst.isIn ms r n)) w := by
  have := Mm.look 86 4 Try.underlying86 (zero_bool w) h ⟨r, n⟩ false
  unfold Pst.mks at this
  rw [Al.enc_get] at this
  rw [show (.agg #[.int .i64 r, .int .i64 n] : Value) = Mk.val ⟨r, n⟩ from rfl, this]
  unfold Pst.isIn
  cases Al.get ms ⟨r, n⟩ <;> rfl
def AddRel (b : Nat) (K : Array Value) (t mb k : Nat) (c : Ck) (ms : List (Mk × Unit)) (B : Nat) (W wr : World) : Prop :=
  ∃ x : Int, 0 ≤ x ∧ Hid (Blk wr b K 81) ∧ Hid (∀ j : Int, 1 ≤ j → j ≤ x → Pst.isIn ms k j = true) ∧ Hid (x ≤ ms.length) ∧ Hid (Blk wr t (Pst.tcells mb (c.set k x)) 88) ∧ Hid (Mm wr mb (Pst.mks ms)) ∧ Hid (Below B W wr)
def AddPost (t mb : Nat) (m : Mk) (ms : List (Mk × Unit)) (B : Nat) (w w' : World) : Prop :=
  ∃ c' : Ck, Pst.Whole (Pst.added ms m) c' ∧ Blk w' t (Pst.tcells mb c') 88 ∧ Mm w' mb (Pst.mks (Pst.added ms m)) ∧ Below B w w'

set_option maxHeartbeats 3200000 in
theorem add_any (t mb B : Nat) (m : Mk) (c : Ck) (ms : List (Mk × Unit)) (w : World) (hT : Blk w t (Pst.tcells mb c) 88) (hM : Mm w mb (Pst.mks ms)) (hc : Pst.Whole ms c) (hBt : B ≤ t) (hBm : B ≤ mb) (hne : mb ≠ t) (hl : ms.length ≤ 4611686018427387904) :
    Calls Try.prog 60 #[.pointer (some ⟨t, 0, none⟩), m.val] w fun x w' => x = .returned (.tuple #[]) ∧ AddPost t mb m ms B w w' := by
  obtain ⟨r, n⟩ := m
  unfold Mk.val
  have hBw : B ≤ w.heap.size := Nat.le_trans hBt (Nat.le_of_lt hT.lt)
  by_cases hr : Ck.rep r = true
  · obtain ⟨k, rfl, hk⟩ := Ck.rep_nat hr
    have HA := Lib.hid (show Pst.added ms ⟨k, n⟩ = Al.put ms ⟨k, n⟩ () by unfold Pst.added; rw [if_pos hr])
    have hk5 : (k : Int) < 5 := by omega
    have d0 : decide ((k : Int) < 0) = false := by simp
    have d5 : decide (5 ≤ (k : Int)) = false := by simpa using hk5
    have T0 := Lib.hid (hT.alloc (.cells #[.int .i64 k, .int .i64 n] 81))
    have M0 := Lib.hid (hM.alloc (.cells #[.int .i64 k, .int .i64 n] 81))
    have K0 := Lib.hid (Blk.new w #[.int .i64 k, .int .i64 n] 81)
    have U0 := Lib.hid (show Below B w (w.alloc (.cells #[.int .i64 k, .int .i64 n] 81)) from (Below.refl B w).alloc hBw _)
    have HC := Lib.hid hc
    have lt := hT.lt
    have lm := hM.lt
    clear hc hT hM hr
    go_enter Try.func60, Try.ntmps60
    go_upto_region 2 with (fail)
    refine wp_named (fun W hW => ?_)
    rw [← show W = w.alloc (.cells #[.int .i64 k, .int .i64 n] 81) from hW] at T0 M0 K0 U0
    clear hW
    obtain ⟨w3, hs, hm3, hg3⟩ := Mm.store 86 4 Try.underlying86 (M0.out.up (Lex.Up.drew W)) ⟨k, n⟩ (.bool true)
    unfold Mk.val at hs
    have M3 := Lib.hid (show Mm w3 mb (Pst.mks (Al.put ms ⟨k, n⟩ ())) by unfold Pst.mks; rw [← Al.enc_put]; exact hm3)
    have hg3' : W.grownBy w3 (some mb) := ⟨hg3.os, hg3.tape, hg3.output, hg3.size, hg3.block⟩
    have T3 := Lib.hid (show Blk w3 t (Pst.tcells mb c) 88 by
      unfold Blk
      rw [hg3'.block t T0.out.lt (fun e => hne (by injection e with e; exact e.symm))]
      exact T0.out)
    have K3 := Lib.hid (show Blk w3 w.heap.size #[.int .i64 k, .int .i64 n] 81 by
      unfold Blk
      rw [hg3'.block _ K0.out.lt (fun e => by injection e with e; omega)]
      exact K0.out)
    have U3 := Lib.hid (show Below B w w3 from Below.grown U0.out hg3' (Nat.le_trans hBw U0.out.size) (fun q hq => by cases hq; exact hBm))
    clear hm3 hg3 hg3'
    obtain ⟨t0, t1, t2, t3, t4, t5⟩ := T0.out.tl
    have k0 : W.cell? ⟨w.heap.size, 0, none⟩ = some (.int .i64 k) := K0.out.cell rfl
    have k1 : W.cell? ⟨w.heap.size, 1, none⟩ = some (.int .i64 n) := K0.out.cell rfl
    have ltW := T0.out.lt
    have lkW := K0.out.lt
    go_region
    go_wp2
    clear hs t0 t1 t2 t3 t4 t5 k0 k1 ltW lkW T0 M0 K0 U0
    have HM := Lib.hid hl
    have HP := Lib.hid (show ∀ j : Int, 1 ≤ j → j ≤ c.get k → Pst.isIn (Al.put ms ⟨k, n⟩ ()) k j = true from fun j h1 h2 => by rw [Pst.isIn_put, (HC.out k hk).2.1 j h1 h2]; rfl)
    have HQ := Lib.hid (show (Al.put ms ⟨k, n⟩ ()).length ≤ 4611686018427387905 by rw [Al.put_length]; split <;> omega)
    have HF := Lib.hid (fun x h0 h1 h2 => Pst.whole_put (ms := ms) (c := c) (k := k) (n := n) (x := x) HC.out h0 h1 h2)
    have H0 := (HC.out k hk).1
    generalize Al.put ms ⟨k, n⟩ () = ns at *
    go_loopw [] (fun wr => AddRel w.heap.size #[.int .i64 k, .int .i64 n] t mb k c ns B w wr) (fun wr => ns.length + 1 - (intOf ((wr.cell? ⟨t, 1 + k, none⟩).getD (.int .i64 0))).toNat)
    case atStart => exact ⟨c.get k, H0, K3, HP, Lib.hid (Pst.whole_le HP.out), by rw [Pst.set_get _ _ hk]; exact T3, M3, U3⟩
    case round =>
      obtain ⟨x, hx0, KM, HA1, hxl, TT, MM, UU⟩ := hrel
      have hxn := hxl.out
      have HQ1 := HQ.out
      clear K3 M3 T3 U3 HP
      obtain ⟨t0, t1, t2, t3, t4, t5⟩ := TT.out.tl
      have tk := TT.out.tk hk
      rw [Pst.get_set _ _ _ _ hk, if_pos rfl] at tk
      have k0 : wr.cell? ⟨w.heap.size, 0, none⟩ = some (.int .i64 k) := KM.out.cell rfl
      have k1 : wr.cell? ⟨w.heap.size, 1, none⟩ = some (.int .i64 n) := KM.out.cell rfl
      have lk : ∀ q, (Instr.lookup 86 (.map (some mb)) (.agg #[.int .i64 k, .int .i64 (x + 1)]) false).run Try.prog (wr.drewN q) = .ok (.bool (Pst.isIn ns k (x + 1))) (wr.drewN q) := fun q => look_tl (ms := ns) (w := wr.drewN q) MM.out k (x + 1)
      cases hq : Pst.isIn ns k (x + 1) with
      | false =>
        rw [hq] at lk
        have P := Lib.hid (fun q => (show AddPost t mb ⟨k, n⟩ ms B w (wr.drewN q) from ⟨c.set k x, by rw [HA.out]; exact HF.out x hx0 HA1.out hq, TT.out.dN q, by rw [HA.out]; exact MM.out, below_dN UU.out q⟩))
        clear hq HA HF TT MM UU
        go_upto_region 3 with (fail)
        go_quiet (fail)
        go_wp2
        go_end0
        exact ⟨rfl, P.out _⟩
      | true =>
        rw [hq] at lk
        have HX := Lib.hid (show ∀ j : Int, 1 ≤ j → j ≤ x + 1 → Pst.isIn ns k j = true from fun j h1 h2 => by
          rcases Int.lt_or_le x j with h | h
          · obtain rfl : j = x + 1 := by omega
            exact hq
          · exact HA1.out j h1 h)
        clear hq
        go_upto_region 3 with (fail)
        go_quiet (fail)
        have T5 := Lib.hid (show Blk (((wr.drewN nq).drew).setCell ⟨t, 1 + k, none⟩ (.int .i64 (x + 1))) t (Pst.tcells mb (c.set k (x + 1))) 88 by
          have := Blk.set (w := (wr.drewN nq).drew) (TT.out.dN nq) (1 + k) (.int .i64 (x + 1))
          rwa [Pst.tcells_set _ _ _ hk, Pst.set_set] at this)
        have M5 := Lib.hid (show Mm (((wr.drewN nq).drew).setCell ⟨t, 1 + k, none⟩ (.int .i64 (x + 1))) mb (Pst.mks ns) from Mm.setCell (w := (wr.drewN nq).drew) MM.out hne _)
        have K5 := Lib.hid (show Blk (((wr.drewN nq).drew).setCell ⟨t, 1 + k, none⟩ (.int .i64 (x + 1))) w.heap.size #[.int .i64 k, .int .i64 n] 81 from Blk.other (w := (wr.drewN nq).drew) KM.out (by simp; omega) _)
        have U5 := Lib.hid (show Below B w (((wr.drewN nq).drew).setCell ⟨t, 1 + k, none⟩ (.int .i64 (x + 1))) from (below_dN UU.out nq).drew.setCell hBt _)
        go_upto_region 4 with (fail)
        refine wp_named (fun W4 hW => ?_)
        have t0 : W4.cell? ⟨t, 0, none⟩ = some (.map (some mb)) := by rw [hW]; exact t0
        have tk4 : W4.cell? ⟨t, 1 + k, none⟩ = some (.int .i64 x) := by rw [hW]; exact tk
        have f4 : W4.frozen? ⟨t, 1 + k, none⟩ = false := by rw [hW]; exact TT.out.frozen _
        have k0 : W4.cell? ⟨w.heap.size, 0, none⟩ = some (.int .i64 k) := by rw [hW]; exact k0
        rw [show wr.drewN nq = W4 from hW.symm] at T5 M5 K5 U5
        have V := Lib.hid tk
        clear hW lk t1 t2 t3 t4 t5 k1 KM TT MM UU HA1
        refine wp_region_still_tail 11 (by kernel_rfl) (by kernel_rfl) ?_
        simp only [List.take_succ_cons, List.take_zero, List.drop_succ_cons, List.drop_zero]
        change wpStill _ _ W4.drew _ _ _
        repeat still_step
        refine wpStill_nil ?_
        change wpList _ _ _ _ _ W4.drew
        go_wp2
        go_roundw
        case rel => exact ⟨x + 1, by omega, K5, HX, Lib.hid (Pst.whole_le HX.out), T5, M5, U5⟩
        case measure =>
          have := T5.out.tk hk
          rw [Pst.get_set _ _ _ _ hk, if_pos rfl] at this
          have h2 := Pst.whole_le HX.out
          have h3 : (((W4.setCell ⟨t, 1 + k, none⟩ (.int .i64 (x + 1))).drew).cell? ⟨t, 1 + k, none⟩) = some (.int .i64 (x + 1)) := this
          rw [h3, V.out]
          simp [intOf]; omega
  · have HA := Lib.hid (show Pst.added ms ⟨r, n⟩ = ms by unfold Pst.added; rw [if_neg hr])
    have P0 := Lib.hid (show AddPost t mb ⟨r, n⟩ ms B w (w.alloc (.cells #[.int .i64 r, .int .i64 n] 81)) from ⟨c, by rw [HA.out]; exact hc, hT.alloc _, by rw [HA.out]; exact hM.alloc _, (Below.refl B w).alloc hBw _⟩)
    have hr' : r < 0 ∨ 5 ≤ r := by simp [Ck.rep] at hr; omega
    clear hc hT hM hr HA
    rcases hr' with h | h
    · have d0 : decide (r < 0) = true := by simpa using h
      go_enter Try.func60, Try.ntmps60
      go_wp2
      (try simp only [Exit.inBlock, Exit.then]); refine bodyPost_ret (results_none rfl _ _ _) rfl ?_
      exact ⟨rfl, P0.out⟩
    · have d0 : decide (r < 0) = false := by simp; omega
      have d5 : decide (5 ≤ r) = true := by simpa using h
      go_enter Try.func60, Try.ntmps60
      go_wp2
      (try simp only [Exit.inBlock, Exit.then]); refine bodyPost_ret (results_none rfl _ _ _) rfl ?_
      exact ⟨rfl, P0.out⟩
end Go.Proofs.Ythgfbnkggdlokaa
