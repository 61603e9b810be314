/-
  Merged: RfA, RfB, RfP, RfC, RfD, RfG, RfH.
-/
import Derived.Test.YthgfbnkggdlokaaFrA
import Derived.Test.YthgfbnkggdlokaaEdR
import Derived.Test.YthgfbnkggdlokaaEvT
import Derived.Test.YthgfbnkggdlokaaRef
import Derived.Test.YthgfbnkggdlokaaFrC
import Derived.Test.YthgfbnkggdlokaaEvY
import Derived.Test.YthgfbnkggdlokaaEvG
import Derived.Deep.DeepCutAuto
/-
  The reference of events and frames: its walks of in, clock, May (event).
-/

namespace Go.Proofs.Ythgfbnkggdlokaa
open Go.RowKit
set_option maxRecDepth 100000

/-- A number from one to another one. -/
def within (n lo hi : Int) : Bool := decide (lo ≤ n ∧ n ≤ hi)
theorem rin_any (n lo hi : Int) (w : World) : Calls Try.prog 91 #[.int .i64 n, .int .i64 lo, .int .i64 hi] w fun e w' => e = .returned (.bool (within n lo hi)) ∧ w' = w := by
  obtain ⟨b, hb⟩ : ∃ b, within n lo hi = b := ⟨_, rfl⟩
  rw [hb]
  unfold within at hb
  by_cases h0 : lo ≤ n
  rotate_left
  · obtain rfl : b = false := by rw [← hb]; simp; omega
    have d : decide (lo ≤ n) = false := by simpa using h0
    clear hb
    go_enter Try.func91, Try.ntmps91
    go_wp2
    go_ret
    exact ⟨rfl, rfl⟩
  by_cases h5 : n ≤ hi
  rotate_left
  · obtain rfl : b = false := by rw [← hb]; simp; omega
    have d : decide (n ≤ hi) = false := by simpa using h5
    clear hb
    go_enter Try.func91, Try.ntmps91
    go_wp2
    go_ret
    exact ⟨rfl, rfl⟩
  obtain rfl : b = true := by rw [← hb]; simp; omega
  have d : decide (n ≤ hi) = true := by simpa using h5
  clear hb
  go_enter Try.func91, Try.ntmps91
  go_wp2
  go_ret
  exact ⟨rfl, rfl⟩
theorem rin7_any (n : Int) (w : World) : Calls Try.prog 80 #[.int .i64 n] w fun e w' => e = .returned (.bool (Fr.cnt n)) ∧ w' = w := by
  obtain ⟨b, hb⟩ : ∃ b, Fr.cnt n = b := ⟨_, rfl⟩
  rw [hb]
  unfold Fr.cnt at hb
  by_cases h0 : 0 ≤ n
  rotate_left
  · obtain rfl : b = false := by rw [← hb]; simp; omega
    have d : decide (0 ≤ n) = false := by simpa using h0
    clear hb
    go_enter Try.func80, Try.ntmps80
    go_wp2
    go_ret
    exact ⟨rfl, rfl⟩
  by_cases h5 : n ≤ 1048576
  rotate_left
  · obtain rfl : b = false := by rw [← hb]; simp; omega
    have d : decide (n ≤ 1048576) = false := by simpa using h5
    clear hb
    go_enter Try.func80, Try.ntmps80
    go_wp2
    go_ret
    exact ⟨rfl, rfl⟩
  obtain rfl : b = true := by rw [← hb]; simp; omega
  have d : decide (n ≤ 1048576) = true := by simpa using h5
  clear hb
  go_enter Try.func80, Try.ntmps80
  go_wp2
  go_ret
  exact ⟨rfl, rfl⟩

/-- A loop over the five of a clock that lies in block b. -/
def CkRel (P : Nat → Prop) (W : World) (v : Value) (wr : World) : Prop :=
  ∃ k : Nat, k ≤ 5 ∧ v = .int .i64 k ∧ Hid (∀ j, j < k → P j) ∧ wr = W
theorem cnt_seen_bad {c : Ck} {j : Nat} (hj : j < 5) (h : Fr.cnt (c.get j) = false) : Ev.seen c = false := by
  rw [← Bool.not_eq_true, Ev.seen_iff]
  intro hs
  have := hs j hj
  simp [Fr.cnt] at h
  omega
theorem cnt_seen_good {c : Ck} (h : ∀ j, j < 5 → Fr.cnt (c.get j) = true) : Ev.seen c = true := (Ev.seen_iff c).2 fun j hj => by have := h j hj; simpa [Fr.cnt] using this

theorem rclock_any (c : Ck) (w : World) : Calls Try.prog 81 #[.agg #[.int .i64 c.c0, .int .i64 c.c1, .int .i64 c.c2, .int .i64 c.c3, .int .i64 c.c4]] w fun x w' => x = .returned (.bool (Ev.seen c)) ∧ Below w.heap.size w w' := by
  have C := Lib.hid (fun n w => rin7_any n w)
  have KA := Lib.hid (Blk.new w c.cells 23)
  have U0 := Lib.hid (show Below w.heap.size w (w.alloc (.cells c.cells 23)) from (Below.refl w.heap.size w).alloc (Nat.le_refl _) _)
  have HBad := Lib.hid (fun j (hj : j < 5) h => cnt_seen_bad (c := c) hj h)
  have HGood := Lib.hid (fun h => cnt_seen_good (c := c) h)
  generalize Ev.seen c = z at *
  go_enter Try.func81, Try.ntmps81
  go_wp2
  refine wp_named (fun W hW => ?_)
  change W = w.alloc (.cells c.cells 23) at hW
  rw [← hW] at KA U0
  clear hW
  have HX := Lib.hid (fun j (hj : j < 5) => show W.cell? ⟨w.heap.size, j, none⟩ = some (.int .i64 (c.get j)) from by
    match j, hj with
    | 0, _ | 1, _ | 2, _ | 3, _ | 4, _ => exact KA.out.cell rfl)
  go_loopw [3] (fun v wr => CkRel (fun j => Fr.cnt (c.get j) = true) W v wr) (fun v _ => 5 - (intOf v).toNat)
  case atStart => exact ⟨0, by omega, rfl, Lib.hid (fun j hj => absurd hj (by omega)), rfl⟩
  case round =>
    obtain ⟨k, hk, rfl, HA, rfl⟩ := hrel
    by_cases h5 : k < 5
    · have hx := HX.out k h5
      have h5' : (k : Int) < 5 := by omega
      have HZ := Lib.hid (fun h => HBad.out k h5 h)
      have HN := Lib.hid (fun (h : Fr.cnt (c.get k) = true) => (show ∀ j, j < k + 1 → Fr.cnt (c.get j) = true from fun j hj => by
        rcases Nat.lt_succ_iff_lt_or_eq.1 hj with h1 | rfl
        · exact HA.out j h1
        · exact h))
      have C' := Lib.hid (fun w => C.out (c.get k) w)
      generalize hg : c.get k = x at hx HZ HN C'
      clear hg HX HBad HGood HA C
      generalize Fr.cnt x = q at *
      go_wp2_with fail
      refine (C'.out _).mono ?_
      rintro e w1 ⟨rfl, rfl⟩
      clear C' hx
      cases q
      · obtain rfl := HZ.out rfl
        go_wp2
        go_ret
        exact ⟨rfl, U0.out⟩
      · go_wp2
        go_roundw
        case rel => exact ⟨k + 1, by omega, by go_num, Lib.hid (HN.out (by simp)), rfl⟩
        case measure => simp [intOf]; omega
    · obtain rfl : k = 5 := by omega
      obtain rfl := HGood.out HA.out
      clear HX HBad HGood HA C
      go_wp2
      go_ret
      exact ⟨rfl, U0.out⟩
end Go.Proofs.Ythgfbnkggdlokaa

/-
  The reference's reader of fields: plain, and the walks of its methods.
-/

namespace Go.Proofs.Ythgfbnkggdlokaa
open Go.RowKit
set_option maxRecDepth 100000

/-- Where the reader stands, and what is wrong. -/
structure Rs where
  p : Nat
  e : Nat
namespace Rs
def one (xs : List Nat) (lo hi : Int) (s : Rs) : Nat × Rs :=
  if s.e ≠ 0 then (0, s) else if xs.length ≤ s.p then (0, ⟨s.p, 2⟩) else (Pl.nth xs s.p, ⟨s.p + 1, if within (Pl.nth xs s.p) lo hi then 0 else 3⟩)
def num (xs : List Nat) (lo hi : Int) (s : Rs) : Nat × Rs :=
  if s.e ≠ 0 then (0, s) else if (Pl.take (xs.drop s.p)).2.2 ≠ 0 then (0, ⟨s.p, (Pl.take (xs.drop s.p)).2.2⟩)
  else if ((Pl.take (xs.drop s.p)).1 : Int) < lo ∨ hi < ((Pl.take (xs.drop s.p)).1 : Int) then (0, ⟨s.p + (Pl.take (xs.drop s.p)).2.1, 3⟩) else ((Pl.take (xs.drop s.p)).1, ⟨s.p + (Pl.take (xs.drop s.p)).2.1, 0⟩)
def words (xs : List Nat) (m : Nat) (s : Rs) : ByteArray × Rs :=
  if s.e ≠ 0 then (⟨#[]⟩, s) else if xs.length - s.p < m then (⟨#[]⟩, ⟨s.p, 2⟩) else (str ((xs.drop s.p).take m), ⟨s.p + m, 0⟩)
/-- Its cells. -/
def cells (s : Rs) (A : Option Addr) (n cap : Nat) : Array Value := #[.slice A n cap, .int .i64 (s.p : Nat), .int .i64 (s.e : Nat)]
end Rs
/-- What a method of the reader at b does. -/
def RdPost (b : Nat) (A : Option Addr) (n cap : Nat) (v : Value) (s : Rs) (w : World) (x : Ending) (w' : World) : Prop :=
  x = .returned v ∧ w.grownBy w' (some b) ∧ Blk w' b (s.cells A n cap) 132 ∧ s.p ≤ n
theorem Rs.set_e (s : Rs) (A : Option Addr) (n cap k : Nat) : (s.cells A n cap).setIfInBounds 2 (.int .i64 (k : Nat)) = Rs.cells ⟨s.p, k⟩ A n cap := rfl
theorem Rs.set_p (s : Rs) (A : Option Addr) (n cap k : Nat) : (s.cells A n cap).setIfInBounds 1 (.int .i64 (k : Nat)) = Rs.cells ⟨k, s.e⟩ A n cap := rfl

theorem Blk.rd {w : World} {b : Nat} {s : Rs} {A : Option Addr} {n cap : Nat} {t : TypeId} (h : Blk w b (s.cells A n cap) t) :
    w.cell? ⟨b, 0, none⟩ = some (.slice A n cap) ∧ w.cell? ⟨b, 1, none⟩ = some (.int .i64 (s.p : Nat)) ∧ w.cell? ⟨b, 2, none⟩ = some (.int .i64 (s.e : Nat)) := ⟨h.cell rfl, h.cell rfl, h.cell rfl⟩

theorem by_row2 {w w1 w2 : World} {r : Option Nat} (h : w.grownBy w1 r) (hg : w1.grownBy w2 r) : w.grownBy w2 r := h.trans hg
set_option maxHeartbeats 1600000 in
theorem rone_any (b : Nat) (A : Option Addr) (n cap : Nat) (xs : List Nat) (lo hi : Int) (s : Rs) (w : World) (hs : SlcB b w A n cap xs) (hb : Blk w b (s.cells A n cap) 132) (hp : s.p ≤ n) :
    Calls Try.prog 108 #[.pointer (some ⟨b, 0, none⟩), .int .i64 lo, .int .i64 hi] w (RdPost b A n cap (.int .i64 ((Rs.one xs lo hi s).1 : Nat)) (Rs.one xs lo hi s).2 w) := by
  obtain ⟨R, hR⟩ : ∃ R, Rs.one xs lo hi s = R := ⟨_, rfl⟩
  rw [hR]
  have HR := Lib.hid hR; clear hR
  have C := Lib.hid (fun n w => rin_any n lo hi w)
  obtain ⟨⟨hl, hc, hm, hlt, hcell⟩, hne⟩ := hs
  obtain ⟨p, e⟩ := s
  have HB := Lib.hid hb
  have HP := Lib.hid hp
  have hlb : b < w.heap.size := hb.lt
  obtain ⟨a0, a1, a2⟩ := hb.rd
  have f1 := hb.frozen 1
  have f2 := hb.frozen 2
  clear hb hne
  simp only at hp a1 a2
  by_cases he : e = 0
  rotate_left
  · have hR2 : R = (0, ⟨p, e⟩) := by rw [← HR.out]; unfold Rs.one; rw [if_pos he]
    subst hR2
    have he' : ((e : Int) != 0) = true := by simp [bne]; omega
    clear hlt hcell
    go_enter Try.func108, Try.ntmps108
    go_wp2
    go_ret
    exact ⟨rfl, World.grownBy.refl _ _, HB.out, HP.out⟩
  subst he
  by_cases hn : n ≤ p
  · have hR2 : R = (0, ⟨p, 2⟩) := by rw [← HR.out]; unfold Rs.one; rw [if_neg (by simp), if_pos (by rw [hl]; exact hn)]
    subst hR2
    have hn' : (n : Int) ≤ p := by omega
    clear hlt hcell
    go_enter Try.func108, Try.ntmps108
    go_wp2
    go_region
    go_wp2
    go_ret
    exact ⟨rfl, (by repeat (first | exact by_set _ _ _ | refine by_drew ?_ | refine World.grownBy.trans ?_ (by_set _ _ _))), HB.out.set _ _, HP.out⟩
  obtain ⟨bx, off, rfl, hbl, hcl⟩ := hcell (by omega)
  have hx := hcl p (by omega)
  have hxlt := hlt p
  unfold bv at hx
  have hR2 : R = (Pl.nth xs p, ⟨p + 1, if within (Pl.nth xs p) lo hi then 0 else 3⟩) := by rw [← HR.out]; unfold Rs.one; rw [if_neg (by simp), if_neg (by rw [hl]; exact hn)]
  subst hR2
  clear hcl hlt HR hcell
  generalize Pl.nth xs p = x at *
  have hn' : decide ((n : Int) ≤ p) = false := by simp; omega
  have hp0 : (0 : Int) ≤ p := by omega
  have hp1 : (p : Int) < n := by omega
  have C' := Lib.hid (fun w => C.out x w)
  clear C
  generalize within x lo hi = q at *
  obtain ⟨z, hz⟩ : ∃ z : Nat, (if q then 0 else 3) = z := ⟨_, rfl⟩
  rw [hz]
  have HZ := Lib.hid hz; clear hz
  have L1 : p + 1 ≤ n := by omega
  go_enter Try.func108, Try.ntmps108
  go_wp2
  go_region
  go_wp2
  go_region
  go_wp2_with fail
  refine (C'.out _).mono ?_
  rintro e w1 ⟨rfl, hw1⟩
  clear C'
  have GB := Lib.hid (show w.grownBy w1 (some b) by rw [hw1]; repeat (first | exact by_set _ _ _ | refine by_drew ?_ | refine World.grownBy.trans ?_ (by_set _ _ _)))
  have KB := Lib.hid (show Blk w1 b (Rs.cells ⟨p + 1, 0⟩ (some ⟨bx, off, none⟩) n cap) 132 by rw [hw1]; exact HB.out.set 1 _)
  have f2 := KB.out.frozen 2
  obtain ⟨a0, a1, a2⟩ := KB.out.rd
  clear hw1 HB
  have hlb : b < w1.heap.size := KB.out.lt
  cases q
  · obtain rfl : z = 3 := HZ.out.symm
    go_wp2
    go_ret
    exact ⟨rfl, by_row2 GB.out (by_set w1 ⟨b, 2, none⟩ _), KB.out.set _ _, L1⟩
  · obtain rfl : z = 0 := HZ.out.symm
    go_wp2
    go_ret
    exact ⟨rfl, GB.out, KB.out, L1⟩

set_option maxHeartbeats 1600000 in
theorem rnum_any (b : Nat) (A : Option Addr) (n cap : Nat) (xs : List Nat) (lo hi : Nat) (s : Rs) (w : World) (hs : SlcB b w A n cap xs) (hb : Blk w b (s.cells A n cap) 132) (hp : s.p ≤ n) (hlo : lo ≤ 1) (hhi : hi ≤ 16777216) :
    Calls Try.prog 109 #[.pointer (some ⟨b, 0, none⟩), .int .i64 lo, .int .i64 hi] w (RdPost b A n cap (.int .i64 ((Rs.num xs lo hi s).1 : Nat)) (Rs.num xs lo hi s).2 w) := by
  obtain ⟨R, hR⟩ : ∃ R, Rs.num xs lo hi s = R := ⟨_, rfl⟩
  rw [hR]
  have HR := Lib.hid hR; clear hR
  obtain ⟨p, e⟩ := s
  simp only at hp
  have HB := Lib.hid hb
  have HP := Lib.hid hp
  have hl := hs.1.1
  have hc := hs.1.2.1
  have hm := hs.1.2.2.1
  have hlb : b < w.heap.size := hb.lt
  obtain ⟨a0, a1, a2⟩ := hb.rd
  simp only at a1 a2
  by_cases he : e = 0
  rotate_left
  · have hR2 : R = (0, ⟨p, e⟩) := by rw [← HR.out]; unfold Rs.num; rw [if_pos he]
    subst hR2
    have he' : ((e : Int) != 0) = true := by simp [bne]; omega
    clear hs hb
    go_enter Try.func109, Try.ntmps109
    go_wp2
    go_ret
    exact ⟨rfl, World.grownBy.refl _ _, HB.out, HP.out⟩
  subst he
  have SD := Lib.hid ((hs.1.dropA (u := p) hp))
  have V : R = if (Pl.take (xs.drop p)).2.2 ≠ 0 then (0, ⟨p, (Pl.take (xs.drop p)).2.2⟩)
    else if ((Pl.take (xs.drop p)).1 : Int) < lo ∨ hi < ((Pl.take (xs.drop p)).1 : Int) then (0, ⟨p + (Pl.take (xs.drop p)).2.1, 3⟩) else ((Pl.take (xs.drop p)).1, ⟨p + (Pl.take (xs.drop p)).2.1, 0⟩) := by
    rw [← HR.out]; unfold Rs.num; rw [if_neg (by simp)]
  have LE := take_le (xs.drop p)
  rw [List.length_drop, hl] at LE
  have CT := Lib.hid (fun w' (hu : Lex.Up w w') => rtake_any _ _ _ _ w' (SD.out.below hu))
  generalize Pl.take (xs.drop p) = T at *
  obtain ⟨v, u, z⟩ := T
  simp only at V LE CT
  have KU := Lib.hid (fun w' (hu : Lex.Up w w') => (HB.out.up hu).rd)
  obtain ⟨A2, hA2⟩ : ∃ A2, (if cap = p then A else A.map fun x => x.add p) = A2 := ⟨_, rfl⟩
  rw [hA2] at CT
  have V' := Lib.hid V
  clear V HR SD hs hb
  have p0 : (0 : Int) ≤ p := by omega
  have p1 : (p : Int) ≤ n := by omega
  have p2 : (p : Int).toNat = p := rfl
  by_cases hcu : cap = p
  · rw [if_pos hcu] at hA2
    subst hA2
    have hnp : n = cap := by omega
    subst hnp
    subst hcu
    rw [Nat.sub_self] at CT
    go_enter Try.func109, Try.ntmps109
    go_wp2
    refine Lex.wp_region_lex (by kernel_rfl) (by kernel_rfl) (by rfl) ?_
    repeat (first | (refine Lex.lex_skip (by rfl) (by rfl) (by rfl) ?_; simp only [Act.put, List.setIfInBounds_toArray, List.set_cons_zero, List.set_cons_succ]) | (refine Lex.lex_pure (c := ?_) (by rfl) (by rfl) (fun w' hC => ?_) (by rfl) ?_; rotate_left 1; (have ⟨a0, a1, a2⟩ := KU.out w' hC; go_simp; rfl); simp only [Act.put, List.setIfInBounds_toArray, List.set_cons_zero, List.set_cons_succ]))
    refine Lex.lex_callv (f := 49) (args := #[.slice A 0 0]) (.tuple #[.int .u64 v, .int .i64 u, .int .i64 z]) (by rfl) (by rfl) (fun w' => by go_simp) (fun w' hC => CT.out w' hC) (by rfl) ?_
    simp only [Act.put, List.setIfInBounds_toArray, List.set_cons_zero, List.set_cons_succ]
    repeat (first | (refine Lex.lex_skip (by rfl) (by rfl) (by rfl) ?_; simp only [Act.put, List.setIfInBounds_toArray, List.set_cons_zero, List.set_cons_succ]) | (refine Lex.lex_pure (c := ?_) (by rfl) (by rfl) (fun w' hC => ?_) (by rfl) ?_; rotate_left 1; (go_simp; rfl); simp only [Act.put, List.setIfInBounds_toArray, List.set_cons_zero, List.set_cons_succ]))
    refine Lex.lex_nil (fun w5 hC => ?_)
    simp only [Lex.fill]
    have GB := Lib.hid (up_by hC (some b))
    have KB := Lib.hid (HB.out.up hC)
    clear hC KU HB a0 a1 a2 CT hlb
    obtain ⟨a0, a1, a2⟩ := KB.out.rd
    have f1 := KB.out.frozen 1
    have f2 := KB.out.frozen 2
    have hlb : b < w5.heap.size := KB.out.lt
    simp only at a1 a2
    by_cases hz : z = 0
    rotate_left
    · have V1 := V'.out
      rw [if_pos hz] at V1
      subst V1
      have hz' : ((z : Int) != 0) = true := by simp [bne]; omega
      clear V'
      go_wp2
      go_ret
      exact ⟨rfl, GB.out.trans (by repeat (first | exact by_set _ _ _ | refine by_drew ?_ | refine World.grownBy.trans ?_ (by_set _ _ _))), KB.out.set _ _, HP.out⟩
    subst hz
    have V1 := V'.out
    rw [if_neg (by simp)] at V1
    have pw : IntKind.i64.wrap ((n : Int) + u) = ((n + u : Nat) : Int) := by rw [IntWalk.i64_in _ ⟨by omega, by omega⟩]; omega
    have lw : IntKind.u64.wrap (lo : Int) = (lo : Int) := by rw [IntKind.wrap_u64]; omega
    have hw : IntKind.u64.wrap (hi : Int) = (hi : Int) := by rw [IntKind.wrap_u64]; omega
    have L1 : n + u ≤ n := by omega
    by_cases hv : (v : Int) < lo ∨ hi < (v : Int)
    · rw [if_pos hv] at V1
      subst V1
      obtain ⟨d, hd⟩ : ∃ d, decide (v < lo) = d := ⟨_, rfl⟩
      clear V'
      cases d
      · have hd2 : decide (hi < v) = true := by simp at hd ⊢; omega
        clear hv
        go_wp2
        go_ret
        exact ⟨rfl, GB.out.trans (by repeat (first | exact by_set _ _ _ | refine by_drew ?_ | refine World.grownBy.trans ?_ (by_set _ _ _))), (KB.out.set 1 _).set _ _, L1⟩
      · clear hv
        go_wp2
        go_ret
        exact ⟨rfl, GB.out.trans (by repeat (first | exact by_set _ _ _ | refine by_drew ?_ | refine World.grownBy.trans ?_ (by_set _ _ _))), (KB.out.set 1 _).set _ _, L1⟩
    · rw [if_neg hv] at V1
      subst V1
      have hd : decide (v < lo) = false := by simp; omega
      have hd2 : decide (hi < v) = false := by simp; omega
      have vw : IntKind.i64.wrap (v : Int) = (v : Int) := IntWalk.i64_in _ ⟨by omega, by omega⟩
      clear V' hv
      go_wp2
      go_ret
      exact ⟨rfl, GB.out.trans (by repeat (first | exact by_set _ _ _ | refine by_drew ?_ | refine World.grownBy.trans ?_ (by_set _ _ _))), KB.out.set 1 _, L1⟩
  · rw [if_neg hcu] at hA2
    subst hA2
    go_enter Try.func109, Try.ntmps109
    go_wp2
    refine Lex.wp_region_lex (by kernel_rfl) (by kernel_rfl) (by rfl) ?_
    repeat (first | (refine Lex.lex_skip (by rfl) (by rfl) (by rfl) ?_; simp only [Act.put, List.setIfInBounds_toArray, List.set_cons_zero, List.set_cons_succ]) | (refine Lex.lex_pure (c := ?_) (by rfl) (by rfl) (fun w' hC => ?_) (by rfl) ?_; rotate_left 1; (have ⟨a0, a1, a2⟩ := KU.out w' hC; go_simp; rfl); simp only [Act.put, List.setIfInBounds_toArray, List.set_cons_zero, List.set_cons_succ]))
    refine Lex.lex_callv (f := 49) (args := #[.slice (A.map fun x => x.add p) (n - p) (cap - p)]) (.tuple #[.int .u64 v, .int .i64 u, .int .i64 z]) (by rfl) (by rfl) (fun w' => by go_simp) (fun w' hC => CT.out w' hC) (by rfl) ?_
    simp only [Act.put, List.setIfInBounds_toArray, List.set_cons_zero, List.set_cons_succ]
    repeat (first | (refine Lex.lex_skip (by rfl) (by rfl) (by rfl) ?_; simp only [Act.put, List.setIfInBounds_toArray, List.set_cons_zero, List.set_cons_succ]) | (refine Lex.lex_pure (c := ?_) (by rfl) (by rfl) (fun w' hC => ?_) (by rfl) ?_; rotate_left 1; (go_simp; rfl); simp only [Act.put, List.setIfInBounds_toArray, List.set_cons_zero, List.set_cons_succ]))
    refine Lex.lex_nil (fun w5 hC => ?_)
    simp only [Lex.fill]
    have GB := Lib.hid (up_by hC (some b))
    have KB := Lib.hid (HB.out.up hC)
    clear hC KU HB a0 a1 a2 CT hlb
    obtain ⟨a0, a1, a2⟩ := KB.out.rd
    have f1 := KB.out.frozen 1
    have f2 := KB.out.frozen 2
    have hlb : b < w5.heap.size := KB.out.lt
    simp only at a1 a2
    by_cases hz : z = 0
    rotate_left
    · have V1 := V'.out
      rw [if_pos hz] at V1
      subst V1
      have hz' : ((z : Int) != 0) = true := by simp [bne]; omega
      clear V'
      go_wp2
      go_ret
      exact ⟨rfl, GB.out.trans (by repeat (first | exact by_set _ _ _ | refine by_drew ?_ | refine World.grownBy.trans ?_ (by_set _ _ _))), KB.out.set _ _, HP.out⟩
    subst hz
    have V1 := V'.out
    rw [if_neg (by simp)] at V1
    have pw : IntKind.i64.wrap ((p : Int) + u) = ((p + u : Nat) : Int) := by rw [IntWalk.i64_in _ ⟨by omega, by omega⟩]; omega
    have lw : IntKind.u64.wrap (lo : Int) = (lo : Int) := by rw [IntKind.wrap_u64]; omega
    have hw : IntKind.u64.wrap (hi : Int) = (hi : Int) := by rw [IntKind.wrap_u64]; omega
    have L1 : p + u ≤ n := by omega
    by_cases hv : (v : Int) < lo ∨ hi < (v : Int)
    · rw [if_pos hv] at V1
      subst V1
      obtain ⟨d, hd⟩ : ∃ d, decide (v < lo) = d := ⟨_, rfl⟩
      clear V'
      cases d
      · have hd2 : decide (hi < v) = true := by simp at hd ⊢; omega
        clear hv
        go_wp2
        go_ret
        exact ⟨rfl, GB.out.trans (by repeat (first | exact by_set _ _ _ | refine by_drew ?_ | refine World.grownBy.trans ?_ (by_set _ _ _))), (KB.out.set 1 _).set _ _, L1⟩
      · clear hv
        go_wp2
        go_ret
        exact ⟨rfl, GB.out.trans (by repeat (first | exact by_set _ _ _ | refine by_drew ?_ | refine World.grownBy.trans ?_ (by_set _ _ _))), (KB.out.set 1 _).set _ _, L1⟩
    · rw [if_neg hv] at V1
      subst V1
      have hd : decide (v < lo) = false := by simp; omega
      have hd2 : decide (hi < v) = false := by simp; omega
      have vw : IntKind.i64.wrap (v : Int) = (v : Int) := IntWalk.i64_in _ ⟨by omega, by omega⟩
      clear V' hv
      go_wp2
      go_ret
      exact ⟨rfl, GB.out.trans (by repeat (first | exact by_set _ _ _ | refine by_drew ?_ | refine World.grownBy.trans ?_ (by_set _ _ _))), KB.out.set 1 _, L1⟩

theorem Slc.mid {w : World} {A : Option Addr} {n cap : Nat} {xs : List Nat} (h : Slc w A n cap xs) {p m : Nat} (hp : p + m ≤ n) :
    Slc w (if cap = p then A else A.map fun x => x.add p) m (cap - p) ((xs.drop p).take m) := by
  have h1 := h.dropA (u := p) (by omega)
  obtain ⟨hl, hc, hm, hlt, hcell⟩ := h1
  refine ⟨by rw [List.length_take]; omega, by omega, hm, fun j => ?_, fun h0 => ?_⟩
  · rw [Pl.nth_take]; split
    · exact hlt _
    · omega
  · obtain ⟨b, off, e, hb, hcl⟩ := hcell (by omega)
    exact ⟨b, off, e, hb, fun j hj => by rw [Pl.nth_take, if_pos hj]; exact hcl j (by omega)⟩
set_option maxHeartbeats 1600000 in
theorem rwords_any (b : Nat) (A : Option Addr) (n cap : Nat) (xs : List Nat) (m : Nat) (s : Rs) (w : World) (hs : SlcB b w A n cap xs) (hb : Blk w b (s.cells A n cap) 132) (hp : s.p ≤ n) (hm2 : m ≤ 255) :
    Calls Try.prog 110 #[.pointer (some ⟨b, 0, none⟩), .int .i64 m] w (RdPost b A n cap (.string (Rs.words xs m s).1) (Rs.words xs m s).2 w) := by
  obtain ⟨R, hR⟩ : ∃ R, Rs.words xs m s = R := ⟨_, rfl⟩
  rw [hR]
  have HR := Lib.hid hR; clear hR
  obtain ⟨p, e⟩ := s
  simp only at hp
  have HB := Lib.hid hb
  have HP := Lib.hid hp
  have hl := hs.1.1
  have hc := hs.1.2.1
  have hm := hs.1.2.2.1
  have hlb : b < w.heap.size := hb.lt
  obtain ⟨a0, a1, a2⟩ := hb.rd
  have f2 := hb.frozen 2
  simp only at a1 a2
  by_cases he : e = 0
  rotate_left
  · have hR2 : R = (⟨#[]⟩, ⟨p, e⟩) := by rw [← HR.out]; unfold Rs.words; rw [if_pos he]
    subst hR2
    have he' : ((e : Int) != 0) = true := by simp [bne]; omega
    clear hs hb
    go_enter Try.func110, Try.ntmps110
    go_wp2
    go_ret
    exact ⟨rfl, World.grownBy.refl _ _, HB.out, HP.out⟩
  subst he
  have dw : IntKind.i64.wrap ((n : Int) - p) = (n : Int) - p := IntWalk.i64_in _ ⟨by omega, by omega⟩
  by_cases hs2 : n - p < m
  · have hR2 : R = (⟨#[]⟩, ⟨p, 2⟩) := by rw [← HR.out]; unfold Rs.words; rw [if_neg (by simp), hl, if_pos hs2]
    subst hR2
    have hd : decide ((n : Int) - p < m) = true := by simp; omega
    clear hs hb
    go_enter Try.func110, Try.ntmps110
    go_wp2
    go_region
    go_wp2
    go_ret
    exact ⟨rfl, (by repeat (first | exact by_set _ _ _ | refine by_drew ?_ | refine World.grownBy.trans ?_ (by_set _ _ _))), HB.out.set _ _, HP.out⟩
  have hR2 : R = (str ((xs.drop p).take m), ⟨p + m, 0⟩) := by rw [← HR.out]; unfold Rs.words; rw [if_neg (by simp), hl, if_neg hs2]
  subst hR2
  have hd : decide ((n : Int) - p < m) = false := by simp; omega
  have L1 : p + m ≤ n := by omega
  have SD := Lib.hid (hs.1.mid L1)
  have KU := Lib.hid (fun w' (hu : Lex.Up w.drew w') => (HB.out.up ((Lex.Up.drew w).trans hu)).rd)
  have CV := Lib.hid (fun w' (hu : Lex.Up w.drew w') => conv_slc (SD.out.below ((Lex.Up.drew w).trans hu)))
  have p0 : (0 : Int) ≤ p := by omega
  have p1 : (p : Int) ≤ (p : Int) + m := by omega
  have p3 : ((p : Int) + m) ≤ cap := by omega
  have p2 : (p : Int).toNat = p := rfl
  have p4 : ((p : Int) + m).toNat = p + m := by omega
  have p5 : p + m - p = m := by omega
  have pw : IntKind.i64.wrap ((p : Int) + m) = ((p : Int) + m) := IntWalk.i64_in _ ⟨by omega, by omega⟩
  generalize str ((xs.drop p).take m) = S at *
  clear hs hb HR
  by_cases hcu : cap = p
  · rw [if_pos hcu] at CV
    subst hcu
    rw [Nat.sub_self] at CV
    go_enter Try.func110, Try.ntmps110
    go_wp2
    go_region
    go_wp2
    refine Lex.wp_region_lex (by kernel_rfl) (by kernel_rfl) (by rfl) ?_
    repeat (first | (refine Lex.lex_skip (by rfl) (by rfl) (by rfl) ?_; simp only [Act.put, List.setIfInBounds_toArray, List.set_cons_zero, List.set_cons_succ]) | (refine Lex.lex_pure (c := ?_) (by rfl) (by rfl) (fun w' hC => ?_) (by rfl) ?_; rotate_left 1; (have ⟨a0, a1, a2⟩ := KU.out w' hC; have c0 := CV.out w' hC; go_simp; rfl); simp only [Act.put, List.setIfInBounds_toArray, List.set_cons_zero, List.set_cons_succ]))
    refine Lex.lex_nil (fun w5 hC => ?_)
    simp only [Lex.fill]
    have GB := Lib.hid (up_by ((Lex.Up.drew w).trans hC) (some b))
    have KB := Lib.hid (HB.out.up ((Lex.Up.drew w).trans hC))
    clear hC KU HB a0 a1 a2 CV hlb
    obtain ⟨a0, a1, a2⟩ := KB.out.rd
    have f1 := KB.out.frozen 1
    have hlb : b < w5.heap.size := KB.out.lt
    simp only at a1 a2
    go_wp2
    go_ret
    exact ⟨rfl, GB.out.trans (by repeat (first | exact by_set _ _ _ | refine by_drew ?_ | refine World.grownBy.trans ?_ (by_set _ _ _))), KB.out.set _ _, L1⟩
  · rw [if_neg hcu] at CV
    go_enter Try.func110, Try.ntmps110
    go_wp2
    go_region
    go_wp2
    refine Lex.wp_region_lex (by kernel_rfl) (by kernel_rfl) (by rfl) ?_
    repeat (first | (refine Lex.lex_skip (by rfl) (by rfl) (by rfl) ?_; simp only [Act.put, List.setIfInBounds_toArray, List.set_cons_zero, List.set_cons_succ]) | (refine Lex.lex_pure (c := ?_) (by rfl) (by rfl) (fun w' hC => ?_) (by rfl) ?_; rotate_left 1; (have ⟨a0, a1, a2⟩ := KU.out w' hC; have c0 := CV.out w' hC; go_simp; rfl); simp only [Act.put, List.setIfInBounds_toArray, List.set_cons_zero, List.set_cons_succ]))
    refine Lex.lex_nil (fun w5 hC => ?_)
    simp only [Lex.fill]
    have GB := Lib.hid (up_by ((Lex.Up.drew w).trans hC) (some b))
    have KB := Lib.hid (HB.out.up ((Lex.Up.drew w).trans hC))
    clear hC KU HB a0 a1 a2 CV hlb
    obtain ⟨a0, a1, a2⟩ := KB.out.rd
    have f1 := KB.out.frozen 1
    have hlb : b < w5.heap.size := KB.out.lt
    simp only at a1 a2
    go_wp2
    go_ret
    exact ⟨rfl, GB.out.trans (by repeat (first | exact by_set _ _ _ | refine by_drew ?_ | refine World.grownBy.trans ?_ (by_set _ _ _))), KB.out.set _ _, L1⟩
end Go.Proofs.Ythgfbnkggdlokaa

/-
  The reference of events: its Take, plain: what was put is read back.
-/

namespace Go.Proofs.Ythgfbnkggdlokaa
open Go.RowKit
set_option maxRecDepth 100000

namespace Rs
theorem one_e {xs : List Nat} {lo hi : Int} {s : Rs} (h : (one xs lo hi s).2.e = 0) : s.e = 0 ∧ within (one xs lo hi s).1 lo hi = true := by
  unfold one at h ⊢
  by_cases h0 : s.e = 0
  · rw [if_neg (by simpa using h0)] at h ⊢
    split at h
    · simp at h
    · rename_i h1
      rw [if_neg h1]
      refine ⟨h0, ?_⟩
      simp only at h ⊢
      split at h
      · assumption
      · simp at h
  · rw [if_pos h0] at h; exact absurd h h0
theorem num_e {xs : List Nat} {lo hi : Int} {s : Rs} (h : (num xs lo hi s).2.e = 0) : s.e = 0 := by
  unfold num at h
  by_cases h0 : s.e = 0
  · exact h0
  · rw [if_pos h0] at h; exact absurd h h0
theorem words_e {xs : List Nat} {m : Nat} {s : Rs} (h : (words xs m s).2.e = 0) : s.e = 0 := by
  unfold words at h
  by_cases h0 : s.e = 0
  · exact h0
  · rw [if_pos h0] at h; exact absurd h h0
theorem one_lt {xs : List Nat} (hx : Bts xs) (lo hi : Int) (s : Rs) : (one xs lo hi s).1 ≤ 255 := by
  unfold one
  split
  · simp
  · split
    · simp
    · have := hx.nth s.p; simp only; omega
theorem num_le (xs : List Nat) (lo : Int) (hi : Nat) (s : Rs) : (num xs lo hi s).1 ≤ hi := by
  unfold num
  split
  · simp
  · split
    · simp
    · split
      · simp
      · simp only; omega
/-- The first i numbers of a clock, but that of r. -/
def cks (xs : List Nat) (r : Nat) (s : Rs) : Nat → Ck × Rs
  | 0 => (Ck.zero, s)
  | i + 1 => if i = r then cks xs r s i else ((cks xs r s i).1.set i (num xs 0 1048576 (cks xs r s i).2).1, (num xs 0 1048576 (cks xs r s i).2).2)
theorem cks_e {xs : List Nat} {r : Nat} {s : Rs} : ∀ {i : Nat}, (cks xs r s i).2.e = 0 → s.e = 0
  | 0, h => h
  | i + 1, h => by
    rw [cks] at h
    split at h
    · exact cks_e h
    · exact cks_e (num_e h)
end Rs
/-- What Take of the reference comes to. -/
def RtRel (xs : List Nat) (e : Ev) (k z : Nat) : Prop :=
  ∃ (k1 : Nat) (t1 : Rs) (r : Nat) (t2 : Rs) (m : Nat) (t3 : Rs) (c : Ck) (t4 : Rs) (h : Nat) (t5 : Rs) (n6 : Nat) (t6 : Rs) (key : ByteArray) (t7 t8 : Rs) (l : Nat) (v : ByteArray) (t9 : Rs),
    Rs.one xs 1 5 ⟨0, 0⟩ = (k1, t1) ∧ Rs.one xs 0 4 t1 = (r, t2) ∧ Rs.num xs 1 1048576 t2 = (m, t3) ∧ Rs.cks xs r t3 5 = (c, t4) ∧ Rs.num xs 1 16777216 t4 = (h, t5) ∧ Rs.one xs 1 8 t5 = (n6, t6) ∧ Rs.words xs n6 t6 = (key, t7) ∧
    t8 = (if t7.e = 0 ∧ Tx.key key ≠ 0 then ⟨t7.p, 3⟩ else t7) ∧
    (if 2 < k1 then l = (Rs.one xs 0 1 t8).1 ∧ (v, t9) = Rs.words xs (Rs.one xs 1 12 (Rs.one xs 0 1 t8).2).1 (Rs.one xs 1 12 (Rs.one xs 0 1 t8).2).2 else l = 0 ∧ v = ⟨#[]⟩ ∧ t9 = t8) ∧
    (if t9.e = 0 then e = ⟨r, m, c.set r ((m : Int) - 1), h, k1, key, l, v⟩ ∧ k = t9.p ∧ z = 0 else e = Ev.zero ∧ k = 0 ∧ z = t9.e)


namespace Rs
theorem nth_drop {xs : List Nat} {p x : Nat} {ys : List Nat} (h : xs.drop p = x :: ys) : Pl.nth xs p = x ∧ p < xs.length ∧ xs.drop (p + 1) = ys := by
  have hp : p < xs.length := by
    rcases Nat.lt_or_ge p xs.length with h1 | h1
    · exact h1
    · rw [List.drop_eq_nil_of_le h1] at h; cases h
  rw [List.drop_eq_getElem_cons hp] at h
  injection h with h1 h2
  exact ⟨by simp [Pl.nth, hp, h1], hp, h2⟩
theorem one_put {xs : List Nat} {p x : Nat} {ys : List Nat} {lo hi : Int} (h : xs.drop p = x :: ys) (h1 : within x lo hi = true) : one xs lo hi ⟨p, 0⟩ = (x, ⟨p + 1, 0⟩) := by
  obtain ⟨h2, h3, -⟩ := nth_drop h
  unfold one
  rw [if_neg (by simp), if_neg (by simp only; omega)]
  simp only [h2, h1, if_true]
theorem num_put {xs : List Nat} {p n : Nat} {ys : List Nat} {lo hi : Int} (h : xs.drop p = Pl.put n ++ ys) (hn : n < 18446744073709551616) (h1 : lo ≤ n ∧ (n : Int) ≤ hi) : num xs lo hi ⟨p, 0⟩ = (n, ⟨p + (Pl.put n).length, 0⟩) := by
  unfold num
  simp only [h]
  have e := Pl.take_put hn ys
  rw [if_neg (by simp), if_neg (by simp [e]), if_neg (by simp only [e]; omega)]
  simp only [e]
theorem words_put {xs : List Nat} {p : Nat} {s : ByteArray} {ys : List Nat} (h : xs.drop p = Ev.raw s ++ ys) : words xs s.size ⟨p, 0⟩ = (s, ⟨p + s.size, 0⟩) := by
  have hl : xs.length - p = s.size + ys.length := by rw [← List.length_drop, h, List.length_append, Ev.raw_len]
  unfold words
  rw [if_neg (by simp), if_neg (by simp only; omega)]
  simp only [h]
  rw [List.take_left' (Ev.raw_len s), Ev.str_raw]
theorem drop_app {xs a ys : List Nat} {p : Nat} (h : xs.drop p = a ++ ys) : xs.drop (p + a.length) = ys := by
  rw [← List.drop_drop, h, List.drop_left]
theorem cks_put {xs : List Nat} {r p : Nat} {c : Ck} (hc : ∀ j, j < 5 → 0 ≤ c.get j ∧ c.get j ≤ 1048576) : ∀ i, i ≤ 5 → ∀ ys, xs.drop p = Ev.others r c i ++ ys → cks xs r ⟨p, 0⟩ i = (Ev.mix r c Ck.zero i, ⟨p + (Ev.others r c i).length, 0⟩)
  | 0, _, _, _ => rfl
  | i + 1, hi, ys, h => by
    have ho : Ev.others r c (i + 1) = Ev.others r c i ++ if (i : Int) = (r : Int) then [] else Pl.put (c.get i).toNat := rfl
    have hm : Ev.mix r c Ck.zero (i + 1) = if (i : Int) = (r : Int) then Ev.mix r c Ck.zero i else (Ev.mix r c Ck.zero i).set i (c.get i) := rfl
    by_cases hir : i = r
    · have hir' : (i : Int) = (r : Int) := by omega
      rw [if_pos hir'] at ho hm
      rw [ho, List.append_nil] at h
      rw [cks, if_pos hir, cks_put hc i (by omega) ys h, hm, ho, List.append_nil]
    · have hir' : ¬ (i : Int) = (r : Int) := by omega
      rw [if_neg hir'] at ho hm
      rw [ho, List.append_assoc] at h
      have ih := cks_put hc i (by omega) _ h
      have hci := hc i (by omega)
      have hn := num_put (lo := 0) (hi := 1048576) (drop_app h) (by omega) (by omega)
      rw [cks, if_neg hir, ih]
      simp only [hn]
      rw [hm, ho, List.length_append, Nat.add_assoc, Int.toNat_of_nonneg hci.1]
end Rs
theorem rt_put {xs rest : List Nat} {e0 e : Ev} {k z : Nat} (g : Ev.Good e0) (hx : xs = Ev.bytes e0 ++ rest) (h : RtRel xs e k z) : e = e0 ∧ k = (Ev.bytes e0).length ∧ z = 0 := by
  obtain ⟨E1, E5, EK, EB, EF⟩ := Ev.edit_zero g.ed
  have KZ := Ev.key_size EK
  have g0 := g.r0; have g1 := g.r5; have g2 := g.n1; have g3 := g.nM; have g4 := g.h1; have g5 := g.hM; have gc := g.c; have go := g.own
  obtain ⟨r0, n0, c0, h0, k0, key0, l0, v0⟩ := e0
  simp only [Ev.ed] at E1 E5 EK EB EF KZ g0 g1 g2 g3 g4 g5 gc go
  obtain ⟨r0, rfl⟩ : ∃ m : Nat, r0 = m := ⟨r0.toNat, by omega⟩
  obtain ⟨n0, rfl⟩ : ∃ m : Nat, n0 = m := ⟨n0.toNat, by omega⟩
  obtain ⟨h0, rfl⟩ : ∃ m : Nat, h0 = m := ⟨h0.toNat, by omega⟩
  obtain ⟨k0, rfl⟩ : ∃ m : Nat, k0 = m := ⟨k0.toNat, by omega⟩
  obtain ⟨k1, t1, r, t2, m, t3, c, t4, h, t5, n6, t6, key, t7, t8, l, v, t9, H1, H2, H3, H4, H5, H6, H7, H8, H9, H10⟩ := h
  have hb : Ev.bytes ⟨r0, n0, c0, h0, k0, key0, l0, v0⟩ = k0 :: r0 :: (Pl.put n0 ++ (Ev.others r0 c0 5 ++ (Pl.put h0 ++ (key0.size :: (Ev.raw key0 ++ Ev.tail ⟨r0, n0, c0, h0, k0, key0, l0, v0⟩))))) := by
    simp [Ev.bytes, Ev.txt]
  have d0 : xs.drop 0 = k0 :: (r0 :: (Pl.put n0 ++ (Ev.others r0 c0 5 ++ (Pl.put h0 ++ (key0.size :: (Ev.raw key0 ++ (Ev.tail ⟨r0, n0, c0, h0, k0, key0, l0, v0⟩ ++ rest))))))) := by
    rw [hx, hb]; simp
  have hlen : (Ev.bytes ⟨r0, n0, c0, h0, k0, key0, l0, v0⟩).length = 1 + 1 + (Pl.put n0).length + (Ev.others r0 c0 5).length + (Pl.put h0).length + 1 + key0.size + (Ev.tail ⟨r0, n0, c0, h0, k0, key0, l0, v0⟩).length := by
    rw [hb]; simp only [List.length_cons, List.length_append, Ev.raw_len]; omega
  clear hx hb
  rw [Rs.one_put d0 (by simp [within]; omega)] at H1
  injection H1 with a1 b1; subst a1; subst b1
  have d1 := (Rs.nth_drop d0).2.2
  rw [Rs.one_put d1 (by simp [within]; omega)] at H2
  injection H2 with a1 b1; subst a1; subst b1
  have d2 := (Rs.nth_drop d1).2.2
  rw [Rs.num_put d2 (by omega) (by omega)] at H3
  injection H3 with a1 b1; subst a1; subst b1
  have d3 := Rs.drop_app d2
  rw [Rs.cks_put gc 5 (by omega) _ d3] at H4
  injection H4 with a1 b1; subst a1; subst b1
  have d4 := Rs.drop_app d3
  rw [Rs.num_put d4 (by omega) (by omega)] at H5
  injection H5 with a1 b1; subst a1; subst b1
  have d5 := Rs.drop_app d4
  rw [Rs.one_put d5 (by simp [within]; omega)] at H6
  injection H6 with a1 b1; subst a1; subst b1
  have d6 := (Rs.nth_drop d5).2.2
  rw [Rs.words_put d6] at H7
  injection H7 with a1 b1; subst a1; subst b1
  have d7 := Rs.drop_app d6
  rw [Ev.raw_len] at d7
  rw [if_neg (fun h => h.2 EK)] at H8
  subst H8
  have hck : (Ev.mix r0 c0 Ck.zero 5).set r0 ((n0 : Int) - 1) = c0 := by
    apply Ck.ext_get
    intro j hj
    rw [Ck.set_get _ _ _ _ hj]
    by_cases hjr : j = r0
    · rw [if_pos hjr, hjr]; simpa using go.symm
    · rw [if_neg hjr, Ev.mix_get r0 c0 Ck.zero 5 (by omega) j hj, if_pos ⟨hj, by omega⟩]
  by_cases hk2 : 2 < k0
  · have hw : Ev.isW (k0 : Int) = true := by simp [Ev.isW]; omega
    have hf := EF (by omega)
    obtain ⟨l0, rfl⟩ : ∃ m : Nat, l0 = m := ⟨l0.toNat, by omega⟩
    have ht : Ev.tail ⟨r0, n0, c0, h0, k0, key0, l0, v0⟩ = l0 :: v0.size :: Ev.raw v0 := by simp [Ev.tail, hw, Ev.txt]
    rw [ht] at d7 hlen
    simp only [List.cons_append] at d7
    rw [if_pos hk2, Rs.one_put d7 (by simp [within]; omega)] at H9
    have d8 := (Rs.nth_drop d7).2.2
    simp only at H9
    rw [Rs.one_put d8 (by simp [within]; omega)] at H9
    have d9 := (Rs.nth_drop d8).2.2
    simp only at H9
    rw [Rs.words_put d9] at H9
    obtain ⟨rfl, h9⟩ := H9
    injection h9 with a1 b1; subst a1; subst b1
    rw [if_pos rfl] at H10
    obtain ⟨rfl, rfl, rfl⟩ := H10
    refine ⟨by rw [hck], ?_, rfl⟩
    rw [hlen]
    simp only [List.length_cons, Ev.raw_len]
    omega
  · have hw : Ev.isW (k0 : Int) = false := by simp [Ev.isW]; omega
    have hf := EB (by omega)
    have ht : Ev.tail ⟨r0, n0, c0, h0, k0, key0, l0, v0⟩ = [] := by simp [Ev.tail, hw]
    rw [ht] at hlen
    rw [if_neg hk2] at H9
    obtain ⟨rfl, rfl, rfl⟩ := H9
    rw [if_pos rfl] at H10
    obtain ⟨rfl, rfl, rfl⟩ := H10
    have hv : v0 = ⟨#[]⟩ := ByteArray.ext (Array.eq_empty_of_size_eq_zero hf.2)
    refine ⟨by rw [hck, hf.1, hv]; rfl, ?_, rfl⟩
    rw [hlen]
    simp only [List.length_nil]
    omega
end Go.Proofs.Ythgfbnkggdlokaa

/-
  The reference of events: its walk of May.
-/

namespace Go.Proofs.Ythgfbnkggdlokaa
open Go.RowKit
set_option maxRecDepth 100000

theorem may_one {e : Ev} (h : within e.r 0 4 = false ∨ within e.n 1 1048576 = false ∨ within e.h 1 16777216 = false ∨ Ev.seen e.c = false ∨ (within e.r 0 4 = true ∧ e.c.get e.r.toNat ≠ e.n - 1)) : Ev.may e = 1 := by
  unfold Ev.may
  rw [if_neg]
  rintro ⟨h1, h2, h3, h4⟩
  simp only [Ev.mark, Ev.high, decide_eq_true_eq] at h1 h4
  rcases h with h | h | h | h | h
  · simp [within] at h; omega
  · simp [within] at h; omega
  · simp [within] at h; omega
  · rw [h] at h2; cases h2
  · exact h.2 h3
theorem may_edit {e : Ev} (h1 : within e.r 0 4 = true) (h2 : within e.n 1 1048576 = true) (h3 : within e.h 1 16777216 = true) (h4 : Ev.seen e.c = true) (h5 : e.c.get e.r.toNat = e.n - 1) : Ev.may e = Tx.edit e.ed := by
  unfold Ev.may
  rw [if_pos]
  simp only [within, decide_eq_true_eq] at h1 h2 h3
  refine ⟨by simp only [Ev.mark, decide_eq_true_eq]; omega, h4, h5, by simp only [Ev.high, decide_eq_true_eq]; omega⟩

set_option maxRecDepth 100000 in
set_option maxHeartbeats 1600000 in
theorem rmay_any (e : Ev) (w : World) : Calls Try.prog 56 #[e.val] w fun x w' => x = .returned (.int .i64 (Ev.may e)) ∧ Below w.heap.size w w' := by
  have V0 := Lib.hid (fun h => may_one (e := e) h)
  have VE := Lib.hid (fun a b c d f => may_edit (e := e) a b c d f)
  have CR := Lib.hid (fun w => up_same (rin_any e.r 0 4 w))
  have CN := Lib.hid (fun w => up_same (rin_any e.n 1 1048576 w))
  have CH := Lib.hid (fun w => up_same (rin_any e.h 1 16777216 w))
  have CI := Lib.hid (fun n w => rin_any n 0 1048576 w)
  have CD := Lib.hid (fun w => edit6_any e w)
  have CE := Lib.hid (fun w => redit_any e.ed w)
  have KA := Lib.hid (Blk.new w e.cells 51)
  have U0 := Lib.hid (show Lex.Up w (w.alloc (.cells e.cells 51)) from (Below.refl w.heap.size w).alloc (Nat.le_refl _) _)
  have HM := Lib.hid (show within e.r 0 4 = true → ∃ j : Nat, e.r = j ∧ j < 5 from fun h => by
    simp only [within, decide_eq_true_eq] at h
    exact ⟨e.r.toNat, by omega, by omega⟩)
  have HN := Lib.hid (show within e.n 1 1048576 = true → 1 ≤ e.n ∧ e.n ≤ 1048576 from fun h => by
    simpa only [within, decide_eq_true_eq] using h)
  have HBad := Lib.hid (fun j (hj : j < 5) h => cnt_seen_bad (c := e.c) hj h)
  have HGood := Lib.hid (fun h => cnt_seen_good (c := e.c) h)
  generalize within e.r 0 4 = br at *
  generalize within e.n 1 1048576 = bn at *
  generalize within e.h 1 16777216 = bh at *
  generalize Ev.seen e.c = sn at *
  generalize Ev.may e = z at *
  unfold Ev.val at *
  go_enter Try.func56, Try.ntmps56
  go_wp2
  refine wp_named (fun W hW => ?_)
  change W = w.alloc (.cells e.cells 51) at hW
  rw [← hW] at KA U0
  clear hW
  have FA := Lib.hid (fun w' (h : Lex.Up W w') => (KA.out.up h).rn)
  have FC := Lib.hid (fun w' (h : Lex.Up W w') => (KA.out.up h).ctx)
  have FH := Lib.hid (fun w' (h : Lex.Up W w') => (KA.out.up h).hk.1)
  cases br
  · have V1 : Hid (z = 1) := Lib.hid (V0.out (.inl rfl))
    clear V0 VE
    refine Lex.wp_region_lex (by kernel_rfl) (by kernel_rfl) (by rfl) ?_
    repeat (first | (refine Lex.lex_skip (by rfl) (by rfl) (by rfl) ?_; simp only [Act.put, List.setIfInBounds_toArray, List.set_cons_zero, List.set_cons_succ]) | (refine Lex.lex_pure (c := ?_) (by rfl) (by rfl) (fun w' hC => ?_) (by rfl) ?_; rotate_left 1; (have ⟨a0, a1⟩ := FA.out w' hC; go_simp; rfl); simp only [Act.put, List.setIfInBounds_toArray, List.set_cons_zero, List.set_cons_succ]))
    refine Lex.lex_callv (f := 91) (args := #[.int .i64 e.r, .int .i64 0, .int .i64 4]) (.bool false) (by rfl) (by rfl) (fun w' => by go_simp) (fun w' hC => CR.out w') (by rfl) ?_
    simp only [Act.put, List.setIfInBounds_toArray, List.set_cons_zero, List.set_cons_succ]
    repeat (first | (refine Lex.lex_skip (by rfl) (by rfl) (by rfl) ?_; simp only [Act.put, List.setIfInBounds_toArray, List.set_cons_zero, List.set_cons_succ]) | (refine Lex.lex_pure (c := ?_) (by rfl) (by rfl) (fun w' hC => ?_) (by rfl) ?_; rotate_left 1; (go_simp; rfl); simp only [Act.put, List.setIfInBounds_toArray, List.set_cons_zero, List.set_cons_succ]))
    refine Lex.lex_nil (fun w5 hC => ?_)
    simp only [Lex.fill]
    have hB := Lib.hid (U0.out.trans hC)
    clear hC
    go_wp2
    go_ret
    exact ⟨by rw [V1.out]; rfl, hB.out⟩
  obtain ⟨j, hj, hj5⟩ := HM.out rfl
  cases bn
  · have V1 : Hid (z = 1) := Lib.hid (V0.out (.inr (.inl rfl)))
    clear V0 VE
    refine Lex.wp_region_lex (by kernel_rfl) (by kernel_rfl) (by rfl) ?_
    repeat (first | (refine Lex.lex_skip (by rfl) (by rfl) (by rfl) ?_; simp only [Act.put, List.setIfInBounds_toArray, List.set_cons_zero, List.set_cons_succ]) | (refine Lex.lex_pure (c := ?_) (by rfl) (by rfl) (fun w' hC => ?_) (by rfl) ?_; rotate_left 1; (have ⟨a0, a1⟩ := FA.out w' hC; go_simp; rfl); simp only [Act.put, List.setIfInBounds_toArray, List.set_cons_zero, List.set_cons_succ]))
    refine Lex.lex_callv (f := 91) (args := #[.int .i64 e.r, .int .i64 0, .int .i64 4]) (.bool true) (by rfl) (by rfl) (fun w' => by go_simp) (fun w' hC => CR.out w') (by rfl) ?_
    simp only [Act.put, List.setIfInBounds_toArray, List.set_cons_zero, List.set_cons_succ]
    repeat (first | (refine Lex.lex_skip (by rfl) (by rfl) (by rfl) ?_; simp only [Act.put, List.setIfInBounds_toArray, List.set_cons_zero, List.set_cons_succ]) | (refine Lex.lex_pure (c := ?_) (by rfl) (by rfl) (fun w' hC => ?_) (by rfl) ?_; rotate_left 1; (have ⟨a0, a1⟩ := FA.out w' hC; go_simp; rfl); simp only [Act.put, List.setIfInBounds_toArray, List.set_cons_zero, List.set_cons_succ]))
    refine Lex.lex_callv (f := 91) (args := #[.int .i64 e.n, .int .i64 1, .int .i64 1048576]) (.bool false) (by rfl) (by rfl) (fun w' => by go_simp) (fun w' hC => CN.out w') (by rfl) ?_
    simp only [Act.put, List.setIfInBounds_toArray, List.set_cons_zero, List.set_cons_succ]
    repeat (first | (refine Lex.lex_skip (by rfl) (by rfl) (by rfl) ?_; simp only [Act.put, List.setIfInBounds_toArray, List.set_cons_zero, List.set_cons_succ]) | (refine Lex.lex_pure (c := ?_) (by rfl) (by rfl) (fun w' hC => ?_) (by rfl) ?_; rotate_left 1; (go_simp; rfl); simp only [Act.put, List.setIfInBounds_toArray, List.set_cons_zero, List.set_cons_succ]))
    refine Lex.lex_nil (fun w5 hC => ?_)
    simp only [Lex.fill]
    have hB := Lib.hid (U0.out.trans hC)
    clear hC
    go_wp2
    go_ret
    exact ⟨by rw [V1.out]; rfl, hB.out⟩
  obtain ⟨hn, hn2⟩ := HN.out rfl
  cases bh
  · have V1 : Hid (z = 1) := Lib.hid (V0.out (.inr (.inr (.inl rfl))))
    clear V0 VE
    refine Lex.wp_region_lex (by kernel_rfl) (by kernel_rfl) (by rfl) ?_
    repeat (first | (refine Lex.lex_skip (by rfl) (by rfl) (by rfl) ?_; simp only [Act.put, List.setIfInBounds_toArray, List.set_cons_zero, List.set_cons_succ]) | (refine Lex.lex_pure (c := ?_) (by rfl) (by rfl) (fun w' hC => ?_) (by rfl) ?_; rotate_left 1; (have ⟨a0, a1⟩ := FA.out w' hC; go_simp; rfl); simp only [Act.put, List.setIfInBounds_toArray, List.set_cons_zero, List.set_cons_succ]))
    refine Lex.lex_callv (f := 91) (args := #[.int .i64 e.r, .int .i64 0, .int .i64 4]) (.bool true) (by rfl) (by rfl) (fun w' => by go_simp) (fun w' hC => CR.out w') (by rfl) ?_
    simp only [Act.put, List.setIfInBounds_toArray, List.set_cons_zero, List.set_cons_succ]
    repeat (first | (refine Lex.lex_skip (by rfl) (by rfl) (by rfl) ?_; simp only [Act.put, List.setIfInBounds_toArray, List.set_cons_zero, List.set_cons_succ]) | (refine Lex.lex_pure (c := ?_) (by rfl) (by rfl) (fun w' hC => ?_) (by rfl) ?_; rotate_left 1; (have ⟨a0, a1⟩ := FA.out w' hC; go_simp; rfl); simp only [Act.put, List.setIfInBounds_toArray, List.set_cons_zero, List.set_cons_succ]))
    refine Lex.lex_callv (f := 91) (args := #[.int .i64 e.n, .int .i64 1, .int .i64 1048576]) (.bool true) (by rfl) (by rfl) (fun w' => by go_simp) (fun w' hC => CN.out w') (by rfl) ?_
    simp only [Act.put, List.setIfInBounds_toArray, List.set_cons_zero, List.set_cons_succ]
    repeat (first | (refine Lex.lex_skip (by rfl) (by rfl) (by rfl) ?_; simp only [Act.put, List.setIfInBounds_toArray, List.set_cons_zero, List.set_cons_succ]) | (refine Lex.lex_pure (c := ?_) (by rfl) (by rfl) (fun w' hC => ?_) (by rfl) ?_; rotate_left 1; (have a3 := FH.out w' hC; go_simp; rfl); simp only [Act.put, List.setIfInBounds_toArray, List.set_cons_zero, List.set_cons_succ]))
    refine Lex.lex_callv (f := 91) (args := #[.int .i64 e.h, .int .i64 1, .int .i64 16777216]) (.bool false) (by rfl) (by rfl) (fun w' => by go_simp) (fun w' hC => CH.out w') (by rfl) ?_
    simp only [Act.put, List.setIfInBounds_toArray, List.set_cons_zero, List.set_cons_succ]
    repeat (first | (refine Lex.lex_skip (by rfl) (by rfl) (by rfl) ?_; simp only [Act.put, List.setIfInBounds_toArray, List.set_cons_zero, List.set_cons_succ]) | (refine Lex.lex_pure (c := ?_) (by rfl) (by rfl) (fun w' hC => ?_) (by rfl) ?_; rotate_left 1; (go_simp; rfl); simp only [Act.put, List.setIfInBounds_toArray, List.set_cons_zero, List.set_cons_succ]))
    refine Lex.lex_nil (fun w5 hC => ?_)
    simp only [Lex.fill]
    have hB := Lib.hid (U0.out.trans hC)
    clear hC
    go_wp2
    go_ret
    exact ⟨by rw [V1.out]; rfl, hB.out⟩
  have FD := Lib.hid (fun w' (h : Lex.Up W w') => (KA.out.up h).at_ hj5)
  have hj5' : (j : Int) < 5 := by omega
  rw [hj] at FA CR V0 VE CD
  rw [show (j : Int).toNat = j from rfl] at V0 VE
  obtain ⟨d, hd⟩ : ∃ d, decide (e.c.get j = e.n - 1) = d := ⟨_, rfl⟩
  have hd' : (e.c.get j == e.n - 1) = d := by rw [← hd]; rfl
  have hwrap : IntKind.i64.wrap (e.n - 1) = e.n - 1 := IntWalk.i64_in _ ⟨by omega, by omega⟩
  have HD := Lib.hid hd; clear hd
  generalize hy : e.c.get j = y at *
  have HY := Lib.hid hy; clear hy
  cases d
  · have hd2 : (y != (e.n - 1)) = true := by simp only [bne, hd', Bool.not_false]
    have V1 : Hid (z = 1) := Lib.hid (V0.out (.inr (.inr (.inr (.inr ⟨rfl, by simpa using HD.out⟩)))))
    clear V0 VE hd' HD
    rw [← hwrap] at hd2
    clear hwrap
    refine Lex.wp_region_lex (by kernel_rfl) (by kernel_rfl) (by rfl) ?_
    repeat (first | (refine Lex.lex_skip (by rfl) (by rfl) (by rfl) ?_; simp only [Act.put, List.setIfInBounds_toArray, List.set_cons_zero, List.set_cons_succ]) | (refine Lex.lex_pure (c := ?_) (by rfl) (by rfl) (fun w' hC => ?_) (by rfl) ?_; rotate_left 1; (have ⟨a0, a1⟩ := FA.out w' hC; go_simp; rfl); simp only [Act.put, List.setIfInBounds_toArray, List.set_cons_zero, List.set_cons_succ]))
    refine Lex.lex_callv (f := 91) (args := #[.int .i64 (j : Int), .int .i64 0, .int .i64 4]) (.bool true) (by rfl) (by rfl) (fun w' => by go_simp) (fun w' hC => CR.out w') (by rfl) ?_
    simp only [Act.put, List.setIfInBounds_toArray, List.set_cons_zero, List.set_cons_succ]
    repeat (first | (refine Lex.lex_skip (by rfl) (by rfl) (by rfl) ?_; simp only [Act.put, List.setIfInBounds_toArray, List.set_cons_zero, List.set_cons_succ]) | (refine Lex.lex_pure (c := ?_) (by rfl) (by rfl) (fun w' hC => ?_) (by rfl) ?_; rotate_left 1; (have ⟨a0, a1⟩ := FA.out w' hC; go_simp; rfl); simp only [Act.put, List.setIfInBounds_toArray, List.set_cons_zero, List.set_cons_succ]))
    refine Lex.lex_callv (f := 91) (args := #[.int .i64 e.n, .int .i64 1, .int .i64 1048576]) (.bool true) (by rfl) (by rfl) (fun w' => by go_simp) (fun w' hC => CN.out w') (by rfl) ?_
    simp only [Act.put, List.setIfInBounds_toArray, List.set_cons_zero, List.set_cons_succ]
    repeat (first | (refine Lex.lex_skip (by rfl) (by rfl) (by rfl) ?_; simp only [Act.put, List.setIfInBounds_toArray, List.set_cons_zero, List.set_cons_succ]) | (refine Lex.lex_pure (c := ?_) (by rfl) (by rfl) (fun w' hC => ?_) (by rfl) ?_; rotate_left 1; (have a3 := FH.out w' hC; go_simp; rfl); simp only [Act.put, List.setIfInBounds_toArray, List.set_cons_zero, List.set_cons_succ]))
    refine Lex.lex_callv (f := 91) (args := #[.int .i64 e.h, .int .i64 1, .int .i64 16777216]) (.bool true) (by rfl) (by rfl) (fun w' => by go_simp) (fun w' hC => CH.out w') (by rfl) ?_
    simp only [Act.put, List.setIfInBounds_toArray, List.set_cons_zero, List.set_cons_succ]
    repeat (first | (refine Lex.lex_skip (by rfl) (by rfl) (by rfl) ?_; simp only [Act.put, List.setIfInBounds_toArray, List.set_cons_zero, List.set_cons_succ]) | (refine Lex.lex_pure (c := ?_) (by rfl) (by rfl) (fun w' hC => ?_) (by rfl) ?_; rotate_left 1; (have ⟨a0, a1⟩ := FA.out w' hC; have a2 := FD.out w' hC; go_simp; rfl); simp only [Act.put, List.setIfInBounds_toArray, List.set_cons_zero, List.set_cons_succ]))
    refine Lex.lex_nil (fun w5 hC => ?_)
    simp only [Lex.fill]
    have hB := Lib.hid (U0.out.trans hC)
    clear hC
    go_wp2
    go_ret
    exact ⟨by rw [V1.out]; rfl, hB.out⟩
  have hd2 : (y != (e.n - 1)) = false := by simp only [bne, hd', Bool.not_true]
  have VE' := Lib.hid (fun h => VE.out rfl rfl rfl h (by simpa using HD.out))
  have V0' := Lib.hid (fun (h : sn = false) => V0.out (.inr (.inr (.inr (.inl h)))))
  clear V0 VE hd' HD
  rw [← hwrap] at hd2
  clear hwrap
  refine Lex.wp_region_lex (by kernel_rfl) (by kernel_rfl) (by rfl) ?_
  repeat (first | (refine Lex.lex_skip (by rfl) (by rfl) (by rfl) ?_; simp only [Act.put, List.setIfInBounds_toArray, List.set_cons_zero, List.set_cons_succ]) | (refine Lex.lex_pure (c := ?_) (by rfl) (by rfl) (fun w' hC => ?_) (by rfl) ?_; rotate_left 1; (have ⟨a0, a1⟩ := FA.out w' hC; go_simp; rfl); simp only [Act.put, List.setIfInBounds_toArray, List.set_cons_zero, List.set_cons_succ]))
  refine Lex.lex_callv (f := 91) (args := #[.int .i64 (j : Int), .int .i64 0, .int .i64 4]) (.bool true) (by rfl) (by rfl) (fun w' => by go_simp) (fun w' hC => CR.out w') (by rfl) ?_
  simp only [Act.put, List.setIfInBounds_toArray, List.set_cons_zero, List.set_cons_succ]
  repeat (first | (refine Lex.lex_skip (by rfl) (by rfl) (by rfl) ?_; simp only [Act.put, List.setIfInBounds_toArray, List.set_cons_zero, List.set_cons_succ]) | (refine Lex.lex_pure (c := ?_) (by rfl) (by rfl) (fun w' hC => ?_) (by rfl) ?_; rotate_left 1; (have ⟨a0, a1⟩ := FA.out w' hC; go_simp; rfl); simp only [Act.put, List.setIfInBounds_toArray, List.set_cons_zero, List.set_cons_succ]))
  refine Lex.lex_callv (f := 91) (args := #[.int .i64 e.n, .int .i64 1, .int .i64 1048576]) (.bool true) (by rfl) (by rfl) (fun w' => by go_simp) (fun w' hC => CN.out w') (by rfl) ?_
  simp only [Act.put, List.setIfInBounds_toArray, List.set_cons_zero, List.set_cons_succ]
  repeat (first | (refine Lex.lex_skip (by rfl) (by rfl) (by rfl) ?_; simp only [Act.put, List.setIfInBounds_toArray, List.set_cons_zero, List.set_cons_succ]) | (refine Lex.lex_pure (c := ?_) (by rfl) (by rfl) (fun w' hC => ?_) (by rfl) ?_; rotate_left 1; (have a3 := FH.out w' hC; go_simp; rfl); simp only [Act.put, List.setIfInBounds_toArray, List.set_cons_zero, List.set_cons_succ]))
  refine Lex.lex_callv (f := 91) (args := #[.int .i64 e.h, .int .i64 1, .int .i64 16777216]) (.bool true) (by rfl) (by rfl) (fun w' => by go_simp) (fun w' hC => CH.out w') (by rfl) ?_
  simp only [Act.put, List.setIfInBounds_toArray, List.set_cons_zero, List.set_cons_succ]
  repeat (first | (refine Lex.lex_skip (by rfl) (by rfl) (by rfl) ?_; simp only [Act.put, List.setIfInBounds_toArray, List.set_cons_zero, List.set_cons_succ]) | (refine Lex.lex_pure (c := ?_) (by rfl) (by rfl) (fun w' hC => ?_) (by rfl) ?_; rotate_left 1; (have ⟨a0, a1⟩ := FA.out w' hC; have a2 := FD.out w' hC; go_simp; rfl); simp only [Act.put, List.setIfInBounds_toArray, List.set_cons_zero, List.set_cons_succ]))
  refine Lex.lex_nil (fun w5 hC => ?_)
  simp only [Lex.fill]
  have hB := Lib.hid (U0.out.trans hC)
  have KB := Lib.hid (KA.out.up hC)
  clear hC KA U0 FA FC FH FD CR CN CH hd2 HY
  go_wp2
  have HX := Lib.hid (fun j (hj : j < 5) => show w5.cell? ⟨w.heap.size, 2 + j, none⟩ = some (.int .i64 (e.c.get j)) from KB.out.at_ hj)
  go_loopw [3] (fun v wr => CkRel (fun j => Fr.cnt (e.c.get j) = true) w5 v wr) (fun v _ => 5 - (intOf v).toNat)
  case atStart => exact ⟨0, by omega, rfl, Lib.hid (fun j hj => absurd hj (by omega)), rfl⟩
  case round =>
    obtain ⟨k, hk, rfl, HA, rfl⟩ := hrel
    by_cases h5 : k < 5
    · have hx := HX.out k h5
      have h5' : (k : Int) < 5 := by omega
      have HZ := Lib.hid (fun h => HBad.out k h5 h)
      have HN := Lib.hid (fun (h : Fr.cnt (e.c.get k) = true) => (show ∀ j, j < k + 1 → Fr.cnt (e.c.get j) = true from fun j hj => by
        rcases Nat.lt_succ_iff_lt_or_eq.1 hj with h1 | rfl
        · exact HA.out j h1
        · exact h))
      have C' := Lib.hid (fun w => show Calls Try.prog 91 #[.int .i64 (e.c.get k), .int .i64 0, .int .i64 1048576] w fun x w' => x = .returned (.bool (Fr.cnt (e.c.get k))) ∧ w' = w from CI.out (e.c.get k) w)
      generalize hg : e.c.get k = x at hx HZ HN C'
      clear hg HX HBad HGood HA CI
      generalize Fr.cnt x = q at *
      go_wp2_with fail
      refine (C'.out _).mono ?_
      rintro e w1 ⟨rfl, rfl⟩
      clear C' hx
      cases q
      · have V1 := Lib.hid (V0'.out (HZ.out rfl))
        go_wp2
        go_ret
        exact ⟨by rw [V1.out]; rfl, hB.out⟩
      · go_wp2
        go_roundw
        case rel => exact ⟨k + 1, by omega, by go_num, Lib.hid (HN.out (by simp)), rfl⟩
        case measure => simp [intOf]; omega
    · obtain rfl : k = 5 := by omega
      have V1 := Lib.hid (VE'.out (HGood.out HA.out))
      clear HX HBad HGood HA CI V0' VE'
      obtain ⟨b0, b1, b2, b3, b4, b5, b6, b7, b8, b9, b10, b11⟩ := Blk.all _ KB.out
      go_wp2_with fail
      refine (CD.out _).mono ?_
      rintro x w1 ⟨rfl, hb1⟩
      have U1 := Lib.hid (hB.out.trans hb1)
      clear CD hb1 b0 b1 b2 b3 b4 b5 b6 b7 b8 b9 b10 b11
      go_wp2_with fail
      refine (CE.out _).mono ?_
      rintro x w2 ⟨rfl, hb2⟩
      have U2 := Lib.hid (U1.out.trans hb2)
      clear CE hb2
      go_wp2
      go_ret
      exact ⟨by rw [V1.out]; rfl, U2.out⟩
end Go.Proofs.Ythgfbnkggdlokaa

/-
  The reference of events: its walk of Put.
-/

namespace Go.Proofs.Ythgfbnkggdlokaa
open Go.RowKit
set_option maxRecDepth 100000

/-- append of a string as a step of a region that draws its order. -/
theorem step_append_str {w : World} {ops : Array Oper} {o : Oper} {a : Act} {K : Act → World → Prop} {Q : Exit → Act → World → Prop} {F : Prop} (hw : Region.wanted o (yielded ops a.tmps) = true) (sl x : Operand)
    (ho : o.op = .call { callee := .builtin .append, args := #[sl, x], argTypes := #[27, 9] })
    (base : Nat) (v : Value) (n : Nat) (xs : List Nat) (hs : a.eval sl = v) (hown : w.ownsRow base 5 1 v n (xs.map bv)) (s : ByteArray) (hx : a.eval x = .string s)
    (hn : n + s.size ≤ 1000000) (hbase : base ≤ w.heap.size)
    (h : ∀ v' w', w'.ownsRow base 5 1 v' (n + s.size) ((xs ++ Ev.raw s).map bv) → w.grownBy w' v.ownBlock → K (a.put o.dst v') w') : if Region.wanted o (yielded ops a.tmps) = true then Oper.wp Try.prog o a w K Q else F := by
  rw [if_pos hw]
  obtain ⟨i0, hi, hz0, hz1, hz2⟩ := info_parts info5
  obtain ⟨v', w', hr, h2, h3, _⟩ := Lib.run_append_own_string (P := Try.prog) w base 27 9 o.type 5 i0 Try.underlying27 Try.underlying9 hi hz0 hz1 hz2 v n (xs.map bv) hown s (by simp only [maxLen]; omega) (by omega) hbase
  unfold Oper.wp execOp
  simp only [ho, resolve, invoke, builtin, Sem.run_bind, Sem.run_pure, Result.andThen_ok, List.map_toArray, List.map_cons, List.map_nil, hs, hx, hr]
  exact h _ _ (by rw [List.map_append, ← strCells_raw]; exact h2) h3

set_option maxRecDepth 100000 in
set_option maxHeartbeats 4000000 in
theorem rput6_any (e : Ev) (w : World) :
    Calls Try.prog 43 #[e.val] w fun x w' => ∃ v, x = .returned (.tuple #[v, .int .i64 (Ev.may e)]) ∧ w'.ownsRow w.heap.size 5 1 v (Ev.out e).length ((Ev.out e).map bv) ∧ Below w.heap.size w w' := by
  have CM := Lib.hid (fun w => rmay_any e w)
  have CP := Lib.hid (fun m w h => rput_any m w h)
  have KA := Lib.hid (Blk.new w e.cells 51)
  have U0 := Lib.hid (show Below w.heap.size w (w.alloc (.cells e.cells 51)) from (Below.refl w.heap.size w).alloc (Nat.le_refl _) _)
  have HO := Lib.hid (show Ev.out e = if Ev.may e = 0 then Ev.bytes e else [] from rfl)
  have HG := Lib.hid (fun h => (Ev.good_iff e).1 h)
  obtain ⟨W, hW⟩ : ∃ W, W = w.alloc (.cells e.cells 51) := ⟨_, rfl⟩
  have HZ := Lib.hid (show w.heap.size + 1 ≤ W.heap.size by rw [hW]; simp)
  rw [← hW] at KA U0
  obtain ⟨z, hz⟩ : ∃ z, Ev.may e = z := ⟨_, rfl⟩
  rw [hz] at HO CM HG ⊢
  clear hz
  unfold Ev.cells at hW
  unfold Ev.val at *
  go_enter Try.func43, Try.ntmps43
  go_upto_region 1 with (fail)
  refine wp_named (fun W2 hW2 => ?_)
  obtain rfl : W2 = W := by rw [hW2, hW]
  clear hW hW2
  obtain ⟨a0, a1⟩ := KA.out.rn
  obtain ⟨b0, b1, b2, b3, b4⟩ := KA.out.ctx
  obtain ⟨c0, c1⟩ := KA.out.hk
  obtain ⟨_, d1, d2, d3⟩ := KA.out.kklv
  go_wp2_with fail
  refine (CM.out _).mono ?_
  rintro x w1 ⟨rfl, hb1⟩
  have U1 := Lib.hid (show Below (w.heap.size + 1) W2 w1 from hb1.mono HZ.out)
  have UW := Lib.hid (show Below w.heap.size w W2 from U0.out)
  clear a0 a1 b0 b1 b2 b3 b4 c0 c1 d1 d2 d3 CM U0
  by_cases hz : z = 0
  rotate_left
  · have hz0 : (z == 0) = false := by simpa using hz
    rw [if_neg hz] at HO
    clear HG
    go_wp2
    go_ret2
    exact ⟨_, rfl, by rw [HO.out]; exact World.ownsRow_nil _ _ _ _, UW.out.trans (U1.out.mono (by omega))⟩
  subst hz
  have G := Lib.hid (HG.out rfl)
  rw [if_pos rfl] at HO
  clear HG hb1
  have KB := Lib.hid (show ∀ w', Below (w.heap.size + 1) W2 w' → Blk w' w.heap.size e.cells 51 from fun w' h => KA.out.belo (Nat.lt_succ_self _) h)
  clear KA
  obtain ⟨E1, E5, EK, EB, EF⟩ := Ev.edit_zero G.out.ed
  have HB := Lib.hid EB; have HF := Lib.hid EF; have HK := Lib.hid (Ev.key_size EK)
  have HC := Lib.hid G.out.c
  have G0 := G.out.r0; have G1 := G.out.r5; have G2 := G.out.n1; have G3 := G.out.nM; have G4 := G.out.h1; have G5 := G.out.hM
  clear EB EF EK G
  obtain ⟨r, n, c, h, k, key, l, v⟩ := e
  simp only [Ev.ed] at E1 E5 HB HF HK HC G0 G1 G2 G3 G4 G5
  obtain ⟨n, rfl⟩ : ∃ m : Nat, n = m := ⟨n.toNat, by omega⟩
  obtain ⟨h, rfl⟩ : ∃ m : Nat, h = m := ⟨h.toNat, by omega⟩
  have wr : IntKind.u8.wrap r = r := by rw [IntKind.wrap_u8]; omega
  have wk : IntKind.u8.wrap k = k := by rw [IntKind.wrap_u8]; omega
  have wn : IntKind.u64.wrap (n : Int) = n := by rw [IntKind.wrap_u64]; omega
  have wh : IntKind.u64.wrap (h : Int) = h := by rw [IntKind.wrap_u64]; omega
  obtain ⟨a0, a1⟩ := (KB.out w1 U1.out).rn
  obtain ⟨c0, c1⟩ := (KB.out w1 U1.out).hk
  go_upto_region 5 with (fail)
  clear a0 a1 c0 c1
  refine wp_named (fun W3 hW3 => ?_)
  have O3 := Lib.hid (show W3.ownsRow (w.heap.size + 1) 5 1 (.slice (some ⟨w1.heap.size, 0, none⟩) 2 2) [k.toNat, r.toNat].length ([k.toNat, r.toNat].map bv) by
    have h1 := own_new w1 (w.heap.size + 1) [k.toNat, r.toNat] (Nat.le_trans HZ.out U1.out.size) (by simp)
    have e1 : ([k.toNat, r.toNat].map bv).toArray = #[.int .u8 k, .int .u8 r] := by
      simp only [bv, List.map_cons, List.map_nil, Int.toNat_of_nonneg (show 0 ≤ k by omega), Int.toNat_of_nonneg (show 0 ≤ r by omega)]
    rw [e1] at h1
    rw [hW3]; exact h1)
  have U3 := Lib.hid (show Below (w.heap.size + 1) W2 W3 by rw [hW3]; exact U1.out.alloc (Nat.le_trans HZ.out U1.out.size) _)
  clear hW3 U1
  obtain ⟨a0, a1⟩ := (KB.out W3 U3.out).rn
  obtain ⟨l0, hl0⟩ : ∃ l0, [k.toNat, r.toNat] = l0 := ⟨_, rfl⟩
  rw [hl0] at O3
  have L0 : l0.length = 2 := by rw [← hl0]; rfl
  have H0 := Lib.hid hl0
  clear hl0
  go_wp2_with fail
  clear a0 a1
  refine (CP.out n _ ((by omega))).mono ?_
  rintro x w4 ⟨A, cap, rfl, hown, hb⟩
  have S2 := Lib.hid (slc_of_own hown (Pl.put_lt ((by omega))))
  have U2 := Lib.hid (U3.out.trans (hb.mono (Nat.le_trans HZ.out U3.out.size)))
  have O2 := Lib.hid (own_up O3.out hb)
  have Z2 : w.heap.size + 1 ≤ w4.heap.size := Nat.le_trans HZ.out U2.out.size
  have PL := Pl.put_len n
  have OB := Lib.hid (own_base O3.out)
  clear hown hb
  generalize hys : Pl.put n = ys at *
  go_wp2_with (at_builtin; refine wpList_append_slc rfl _ _ rfl (w.heap.size + 1) (.slice (some ⟨w1.heap.size, 0, none⟩) 2 2) l0.length l0 rfl O2.out A ys.length cap ys rfl S2.out (by omega) Z2 ?_)
  intro v5 w5 hown3 hg3
  have U5 := Lib.hid (Below.grown U2.out hg3 Z2 OB.out)
  have O5 := Lib.hid (show w5.ownsRow (w.heap.size + 1) 5 1 v5 (l0 ++ ys).length ((l0 ++ ys).map bv) by first | (simpa using hown3) | (simpa [L0] using hown3))
  clear hown3 hg3 S2 U2 O2 Z2 OB
  subst hys
  have L5 : (l0 ++ Pl.put n).length ≤ 13 := by rw [List.length_append]; omega
  generalize hhd : l0 ++ Pl.put n = hd at *
  have HD := Lib.hid hhd
  clear hhd PL L0 U3 O3
  obtain ⟨b0, b1, b2, b3, b4⟩ := (KB.out w5 U5.out).ctx
  go_wp2
  clear b0 b1 b2 b3 b4
  go_loopw [5, 6] (fun v5 v28 wr => PutEvRel (w.heap.size + 1) W2 hd r c v5 v28 wr) (fun _ v28 _ => 5 - (intOf v28).toNat)
  case atStart => exact ⟨0, hd, by omega, rfl, Lib.hid (by simp [Ev.others]), O5, U5⟩
  case round =>
    obtain ⟨i, xs, hi, rfl, HXS, O1, U1⟩ := hrel
    have LX : xs.length ≤ 68 := by have := Ev.others_len r c i; rw [HXS.out, List.length_append]; omega
    clear O5 U5
    by_cases h5 : i < 5
    · have h5' : (i : Int) < 5 := by omega
      have hx : wr.cell? ⟨w.heap.size, 2 + i, none⟩ = some (.int .i64 (c.get i)) := (KB.out wr U1.out).at_ h5
      obtain ⟨a0, a1⟩ := (KB.out wr U1.out).rn
      have HCi := HC.out i h5
      have HOT := Lib.hid (show Ev.others r c (i + 1) = Ev.others r c i ++ if (i : Int) = r then [] else Pl.put (c.get i).toNat from rfl)
      obtain ⟨m, hm⟩ : ∃ m : Nat, c.get i = m := ⟨(c.get i).toNat, by omega⟩
      rw [hm] at hx HOT HCi
      clear hm
      have wm : IntKind.u64.wrap (m : Int) = m := by rw [IntKind.wrap_u64]; omega
      by_cases hir : (i : Int) = r
      · have d0 : ((i : Int) == r) = true := by simpa using hir
        have d1 : ((i : Int) != r) = false := by simp [bne, d0]
        rw [if_pos hir] at HOT
        clear hir
        go_wp2
        go_roundw
        case rel => exact ⟨i + 1, xs, by omega, by go_num, Lib.hid (by rw [HOT.out, HXS.out]; simp), O1, U1⟩
        case measure => simp [intOf]; omega
      · have d0 : ((i : Int) == r) = false := by simpa using hir
        have d1 : ((i : Int) != r) = true := by simp [bne, d0]
        rw [if_neg hir] at HOT
        clear hir
        go_wp2_with fail
        clear a0 a1 hx
        refine (CP.out m _ ((by omega))).mono ?_
        rintro x w6 ⟨A, cap, rfl, hown, hb⟩
        have S2 := Lib.hid (slc_of_own hown (Pl.put_lt ((by omega))))
        have U2 := Lib.hid (U1.out.trans (hb.mono (Nat.le_trans HZ.out U1.out.size)))
        have O2 := Lib.hid (own_up O1.out hb)
        have Z2 : w.heap.size + 1 ≤ w6.heap.size := Nat.le_trans HZ.out U2.out.size
        have PL := Pl.put_len m
        have OB := Lib.hid (own_base O1.out)
        clear hown hb
        generalize hys : Pl.put m = ys at *
        go_wp2_with (at_builtin; refine wpList_append_slc rfl _ _ rfl (w.heap.size + 1) _ xs.length xs rfl O2.out A ys.length cap ys rfl S2.out (by omega) Z2 ?_)
        intro v7 w7 hown3 hg3
        have U7 := Lib.hid (Below.grown U2.out hg3 Z2 OB.out)
        have O7 := Lib.hid (show w7.ownsRow (w.heap.size + 1) 5 1 v7 (xs ++ ys).length ((xs ++ ys).map bv) by first | (simpa using hown3) | (simpa [L0] using hown3))
        clear hown3 hg3 S2 U2 O2 Z2 OB
        subst hys
        go_wp2
        go_roundw
        case rel => exact ⟨i + 1, xs ++ Pl.put m, by omega, by go_num, Lib.hid (by rw [HOT.out, HXS.out]; simp), O7, U7⟩
        case measure => simp [intOf]; omega
    · obtain rfl : i = 5 := by omega
      clear hi h5
      obtain ⟨a0, a1⟩ := (KB.out wr U1.out).hk
      go_wp2_with fail
      clear a0 a1
      refine (CP.out h _ ((by omega))).mono ?_
      rintro x w6 ⟨A, cap, rfl, hown, hb⟩
      have S2 := Lib.hid (slc_of_own hown (Pl.put_lt ((by omega))))
      have U2 := Lib.hid (U1.out.trans (hb.mono (Nat.le_trans HZ.out U1.out.size)))
      have O2 := Lib.hid (own_up O1.out hb)
      have Z2 : w.heap.size + 1 ≤ w6.heap.size := Nat.le_trans HZ.out U2.out.size
      have PL := Pl.put_len h
      have OB := Lib.hid (own_base O1.out)
      clear hown hb
      generalize hys : Pl.put h = ys at *
      go_wp2_with (at_builtin; refine wpList_append_slc rfl _ _ rfl (w.heap.size + 1) _ xs.length xs rfl O2.out A ys.length cap ys rfl S2.out (by omega) Z2 ?_)
      intro v7 w7 hown3 hg3
      have U7 := Lib.hid (Below.grown U2.out hg3 Z2 OB.out)
      have O7 := Lib.hid (show w7.ownsRow (w.heap.size + 1) 5 1 v7 (xs ++ ys).length ((xs ++ ys).map bv) by first | (simpa using hown3) | (simpa [L0] using hown3))
      clear hown3 hg3 S2 U2 O2 Z2 OB
      subst hys
      obtain ⟨_, a1, _, _⟩ := (KB.out w7 U7.out).kklv
      have KZ := HK.out
      have L7 : (xs ++ Pl.put h).length ≤ 79 := by rw [List.length_append]; omega
      have wkey : IntKind.u8.wrap (key.size : Int) = key.size := by rw [IntKind.wrap_u8]; omega
      generalize hzs : xs ++ Pl.put h = zs at *
      have HZS := Lib.hid hzs; clear hzs PL U1 O1
      go_wp2
      have SA := Lib.hid (show Sl (w7.alloc (.cells #[.int .u8 (key.size : Int)] 5)).drew 1 (some ⟨w7.heap.size, 0, none⟩) 1 1 [.int .u8 (key.size : Int)] from Sl.of_blk (Blk.new w7 #[.int .u8 (key.size : Int)] 5) rfl (by decide))
      have OA := Lib.hid (show (w7.alloc (.cells #[.int .u8 (key.size : Int)] 5)).drew.ownsRow (w.heap.size + 1) 5 1 v7 zs.length (zs.map bv) from O7.out.alloc _)
      have ZW : w.heap.size + 1 ≤ w7.heap.size := Nat.le_trans HZ.out U7.out.size
      have UA := Lib.hid (show Below (w.heap.size + 1) W2 (w7.alloc (.cells #[.int .u8 (key.size : Int)] 5)).drew from (U7.out.alloc ZW _).drew)
      have ZA : w.heap.size + 1 ≤ (w7.alloc (.cells #[.int .u8 (key.size : Int)] 5)).drew.heap.size := by simp; omega
      have OB := Lib.hid (own_base O7.out)
      have EC := Lib.hid (show [.int .u8 (key.size : Int)] = [key.size].map bv by first | rfl | (rw [List.map_cons, bl]; rfl))
      have a4 : (w7.alloc (.cells #[.int .u8 (key.size : Int)] 5)).cell? ⟨w.heap.size, 9, none⟩ = some (.string key) := (KB.out _ UA.out).kklv.2.1
      go_region_law (first
        | (refine ES8.step_append (by rfl) (.tmp 47) (.tmp 52) rfl (w.heap.size + 1) v7 zs.length (zs.map bv) (by rfl) OA.out (some ⟨w7.heap.size, 0, none⟩) 1 1 [.int .u8 (key.size : Int)] (by rfl) SA.out (by simp [Value.oneCell']) (by omega) (by simp only [maxLen]; omega) ZA ?_
           intro v10 w10 hown10 hg10
           have U10 := Lib.hid (Below.grown UA.out hg10 ZA OB.out)
           have O10 := Lib.hid (show w10.ownsRow (w.heap.size + 1) 5 1 v10 (zs.length + 1) ((zs ++ [key.size]).map bv) by rw [List.map_append, ← EC.out]; exact hown10)
           have OB10 := Lib.hid (own_base hown10)
           have Z10 : w.heap.size + 1 ≤ w10.heap.size := Nat.le_trans HZ.out U10.out.size
           have a5 : w10.cell? ⟨w.heap.size, 9, none⟩ = some (.string key) := (KB.out w10 U10.out).kklv.2.1
           clear hown10 hg10)
        | (refine step_append_str (by rfl) (.tmp 53) (.tmp 55) rfl (w.heap.size + 1) v10 (zs.length + 1) (zs ++ [key.size]) (by rfl) O10.out key (by rfl) (by omega) Z10 ?_
           intro v8 w8 hown11 hg11
           have U8 := Lib.hid (Below.grown U10.out hg11 Z10 OB10.out)
           have O8 := Lib.hid hown11
           clear hown11 hg11))
      all_goals
        clear a4 a5 OA SA UA ZA OB EC OB10 O10 U10 Z10 a1 ZW O7
        have e1 : (zs ++ Ev.txt key).length = zs.length + 1 + key.size := by simp only [Ev.txt, List.length_append, List.length_cons, Ev.raw_len]; omega
        have O9 := Lib.hid (show w8.ownsRow (w.heap.size + 1) 5 1 v8 (zs ++ Ev.txt key).length ((zs ++ Ev.txt key).map bv) by
          rw [e1, show zs ++ Ev.txt key = zs ++ [key.size] ++ Ev.raw key by simp [Ev.txt]]; exact O8.out)
        have L8 : (zs ++ Ev.txt key).length ≤ 88 := by omega
        clear O8 e1
        generalize hys : zs ++ Ev.txt key = ys at *
        have HY := Lib.hid hys
        clear hys
        obtain ⟨a0, _, a2, a3⟩ := (KB.out w8 U8.out).kklv
        obtain ⟨q, hq⟩ : ∃ q, decide (2 < k) = q := ⟨_, rfl⟩
        cases q
        · have hw : Ev.isW k = false := by simp at hq; simp [Ev.isW]; omega
          have e1 : Ev.out ⟨r, n, c, h, k, key, l, v⟩ = ys := by
            rw [HO.out, ← HY.out, ← HZS.out, HXS.out, ← HD.out, ← H0.out]
            simp [Ev.bytes, Ev.tail, hw]
          have HE := Lib.hid e1
          clear hw e1
          go_wp2
          go_ret2
          exact ⟨v8, rfl, by rw [HE.out]; exact own_mono O9.out (by omega), UW.out.trans (U8.out.mono (by omega))⟩
        · have hw : Ev.isW k = true := by simp at hq; simp [Ev.isW]; omega
          have hl := HF.out (Ev.isW_true k hw)
          have LV : v.size ≤ 12 := hl.2.2
          have l0' : 0 ≤ l := by have := hl.1; omega
          have l1' : l ≤ 1 := by have := hl.1; omega
          have wl : IntKind.u8.wrap l = l := by rw [IntKind.wrap_u8]; omega
          have wv : IntKind.u8.wrap (v.size : Int) = v.size := by rw [IntKind.wrap_u8]; omega
          have e1 : Ev.out ⟨r, n, c, h, k, key, l, v⟩ = ys ++ [l.toNat, v.size] ++ Ev.raw v := by
            rw [HO.out, ← HY.out, ← HZS.out, HXS.out, ← HD.out, ← H0.out]
            simp [Ev.bytes, Ev.tail, hw, Ev.txt]
          have HE := Lib.hid e1
          have TX := Lib.hid (show (ys ++ [l.toNat, v.size] ++ Ev.raw v).length = ys.length + 2 + v.size by simp only [List.length_append, List.length_cons, List.length_nil, Ev.raw_len])
          have bl : bv l.toNat = .int .u8 l := by unfold bv; rw [Int.toNat_of_nonneg l0']
          clear hl hw HB HF HK HC e1 HXS HD H0 HY HO
          have a6 : w8.cell? ⟨w.heap.size, 11, none⟩ = some (.string v) := a3
          go_wp2
          have SA := Lib.hid (show Sl (w8.alloc (.cells #[.int .u8 l, .int .u8 (v.size : Int)] 5)).drew 1 (some ⟨w8.heap.size, 0, none⟩) 2 2 [.int .u8 l, .int .u8 (v.size : Int)] from Sl.of_blk (Blk.new w8 #[.int .u8 l, .int .u8 (v.size : Int)] 5) rfl (by decide))
          have OA := Lib.hid (show (w8.alloc (.cells #[.int .u8 l, .int .u8 (v.size : Int)] 5)).drew.ownsRow (w.heap.size + 1) 5 1 v8 ys.length (ys.map bv) from O9.out.alloc _)
          have ZW : w.heap.size + 1 ≤ w8.heap.size := Nat.le_trans HZ.out U8.out.size
          have UA := Lib.hid (show Below (w.heap.size + 1) W2 (w8.alloc (.cells #[.int .u8 l, .int .u8 (v.size : Int)] 5)).drew from (U8.out.alloc ZW _).drew)
          have ZA : w.heap.size + 1 ≤ (w8.alloc (.cells #[.int .u8 l, .int .u8 (v.size : Int)] 5)).drew.heap.size := by simp; omega
          have OB := Lib.hid (own_base O9.out)
          have EC := Lib.hid (show [.int .u8 l, .int .u8 (v.size : Int)] = [l.toNat, v.size].map bv by first | rfl | (rw [List.map_cons, bl]; rfl))
          have a4 : (w8.alloc (.cells #[.int .u8 l, .int .u8 (v.size : Int)] 5)).cell? ⟨w.heap.size, 11, none⟩ = some (.string v) := (KB.out _ UA.out).kklv.2.2.2
          go_region_law (first
            | (refine ES8.step_append (by rfl) (.tmp 60) (.tmp 68) rfl (w.heap.size + 1) v8 ys.length (ys.map bv) (by rfl) OA.out (some ⟨w8.heap.size, 0, none⟩) 2 2 [.int .u8 l, .int .u8 (v.size : Int)] (by rfl) SA.out (by simp [Value.oneCell']) (by omega) (by simp only [maxLen]; omega) ZA ?_
               intro v10 w10 hown10 hg10
               have U10 := Lib.hid (Below.grown UA.out hg10 ZA OB.out)
               have O10 := Lib.hid (show w10.ownsRow (w.heap.size + 1) 5 1 v10 (ys.length + 2) ((ys ++ [l.toNat, v.size]).map bv) by rw [List.map_append, ← EC.out]; exact hown10)
               have OB10 := Lib.hid (own_base hown10)
               have Z10 : w.heap.size + 1 ≤ w10.heap.size := Nat.le_trans HZ.out U10.out.size
               have a5 : w10.cell? ⟨w.heap.size, 11, none⟩ = some (.string v) := (KB.out w10 U10.out).kklv.2.2.2
               clear hown10 hg10)
            | (refine step_append_str (by rfl) (.tmp 69) (.tmp 71) rfl (w.heap.size + 1) v10 (ys.length + 2) (ys ++ [l.toNat, v.size]) (by rfl) O10.out v (by rfl) (by omega) Z10 ?_
               intro v11 w11 hown11 hg11
               have U11 := Lib.hid (Below.grown U10.out hg11 Z10 OB10.out)
               have O11 := Lib.hid hown11
               clear hown11 hg11))
          all_goals (go_wp2; go_ret2; exact ⟨v11, rfl, by rw [HE.out, TX.out]; exact own_mono O11.out (by omega), UW.out.trans (U11.out.mono (by omega))⟩)
end Go.Proofs.Ythgfbnkggdlokaa

/-
  The reference of frames: its walks of events.
-/

namespace Go.Proofs.Ythgfbnkggdlokaa
open Go.RowKit
set_option maxRecDepth 100000

def evsOk (es : List Ev) : Bool := (es.all fun e => decide (Ev.may e = 0)) && decide (es.length ≤ 20)
set_option maxHeartbeats 1600000 in
theorem revents_any (es : List Ev) (A : Option Addr) (n cap : Nat) (w : World) (h : EvSl w A n cap es) :
    Calls Try.prog 79 #[.slice A n cap] w fun x w' => x = .returned (.bool (evsOk es)) ∧ Below w.heap.size w w' := by
  have C := Lib.hid (fun e w => rmay_any e w)
  unfold Ev.val at C
  have V := Lib.hid (show evsOk es = ((es.all fun e => decide (Ev.may e = 0)) && decide (n ≤ 20)) by unfold evsOk; rw [h.len])
  have SL := Lib.hid (fun w' (hu : Lex.Up w w') => EvSl.up h hu)
  have NL := Lib.hid h.len
  have AD := Lib.hid h.addr
  have hlim := h.lim
  clear h
  generalize evsOk es = z at *
  go_enter Try.func79, Try.ntmps79
  go_wp2
  go_loopw [3] (fun v wr => MERel (fun j => Ev.may (Ev.nth es j) = 0) n w v wr) (fun v _ => n - (intOf v).toNat)
  case atStart => exact ⟨0, by omega, rfl, Lib.hid (fun j hj => absurd hj (by omega)), Lib.hid (Lex.Up.refl w)⟩
  case round =>
    obtain ⟨k, hk, rfl, HA, UR⟩ := hrel
    by_cases h5 : k < n
    · have h5' : (k : Int) < n := by omega
      obtain ⟨b, off, rfl⟩ := AD.out (by omega)
      obtain ⟨e0, e1, e2, e3, e4, e5, e6, e7, e8, e9, e10, e11⟩ := ev_at (SL.out wr UR.out) h5
      have HZ := Lib.hid (show Ev.may (Ev.nth es k) ≠ 0 → z = false from fun h => by
        rw [V.out, not_all_nth (j := k) (by rw [NL.out]; exact h5) (by simpa using h)]; simp)
      have HN := Lib.hid (fun (h : Ev.may (Ev.nth es k) = 0) => (show ∀ j, j < k + 1 → Ev.may (Ev.nth es j) = 0 from fun j hj => by
        rcases Nat.lt_succ_iff_lt_or_eq.1 hj with h1 | rfl
        · exact HA.out j h1
        · exact h))
      generalize hg : Ev.nth es k = e at e0 e1 e2 e3 e4 e5 e6 e7 e8 e9 e10 e11 HZ HN
      have C' := Lib.hid (fun w => C.out e w)
      clear hg HA C V
      generalize Ev.may e = m at *
      go_wp2_with fail
      refine (C'.out _).mono ?_
      rintro x w1 ⟨rfl, hb1⟩
      have U1 := Lib.hid (UR.out.trans hb1)
      clear C' hb1 e0 e1 e2 e3 e4 e5 e6 e7 e8 e9 e10 e11
      by_cases hm : m = 0
      · have hm' : (m != 0) = false := by simp [hm]
        go_wp2
        go_roundw
        case rel => exact ⟨k + 1, by omega, by go_num, Lib.hid (HN.out hm), U1⟩
        case measure => simp [intOf]; omega
      · have hm' : (m != 0) = true := by simpa [bne] using hm
        obtain rfl := HZ.out hm
        go_wp2
        go_ret
        exact ⟨rfl, U1.out⟩
    · obtain rfl : k = n := by omega
      have hz : z = decide (k ≤ 20) := by
        rw [V.out, all_nth (fun j hj => by have := HA.out j (by rw [← NL.out]; exact hj); simpa using this), Bool.true_and]
      obtain ⟨d, hd⟩ : ∃ d, decide (k ≤ 20) = d := ⟨_, rfl⟩
      rw [hd] at hz
      have hd' : decide ((k : Int) ≤ 20) = d := by rw [← hd, Bool.eq_iff_iff, decide_eq_true_eq, decide_eq_true_eq]; omega
      clear hd
      subst hz
      clear C V
      go_wp2
      go_ret
      exact ⟨rfl, UR.out⟩
end Go.Proofs.Ythgfbnkggdlokaa

/-
  The reference of frames: its walk of May.
-/

namespace Go.Proofs.Ythgfbnkggdlokaa
open Go.RowKit
set_option maxRecDepth 100000

theorem mayE_ok (f : Fr) : Fr.mayE f = (decide (f.u = 0) && Fr.noc f.c && evsOk f.es) := by
  unfold Fr.mayE evsOk
  rw [Bool.and_assoc, Bool.and_assoc, Bool.and_assoc, Bool.and_comm (decide (f.es.length ≤ 20))]
set_option maxHeartbeats 4000000 in
theorem rmay7_any (f : Fr) (A : Option Addr) (n cap : Nat) (w : World) (h : EvSl w A n cap f.es) :
    Calls Try.prog 41 #[f.val (.slice A n cap)] w fun x w' => x = .returned (.bool (Fr.may f)) ∧ Below w.heap.size w w' := by
  have CU := Lib.hid (fun w => rin7_any f.u w)
  have CC := Lib.hid (fun w => rclock_any f.c w)
  have CE := Lib.hid (fun w h => revents_any f.es A n cap w h)
  have E := eq_noc f.c
  have KA := Lib.hid (Blk.new w (f.cells (.slice A n cap)) 26)
  have U0 := Lib.hid (show Lex.Up w (w.alloc (.cells (f.cells (.slice A n cap)) 26)) from (Below.refl w.heap.size w).alloc (Nat.le_refl _) _)
  have UK := Lib.hid (show ∀ w', Lex.Up (w.alloc (.cells (f.cells (.slice A n cap)) 26)) w' → Blk w' w.heap.size (f.cells (.slice A n cap)) 26 from fun w' hu => KA.out.up hu)
  have SL := Lib.hid (fun w' (hu : Lex.Up w w') => EvSl.up h hu)
  have NL := Lib.hid h.len
  have AD := Lib.hid h.addr
  have hlim := h.lim
  have M0 := Lib.hid (show Fr.may f = (decide (0 ≤ f.r ∧ f.r < 5) && Fr.mayK f) from rfl)
  have MK := Lib.hid (show Fr.mayK f = if f.k = 1 then Fr.mayP f else if f.k = 2 then Fr.mayU f else if f.k = 3 then Fr.mayC f else if f.k = 4 then Fr.mayE f else if f.k = 5 then Fr.mayC f else false from rfl)
  have MP := Lib.hid (show Fr.mayP f = ((f.es.all fun e => decide (e.r = f.r)) && decide (0 < n) && (decide (f.u = 0) && Fr.noc f.c && evsOk f.es)) by rw [← mayE_ok]; unfold Fr.mayP; rw [h.len])
  have ME := Lib.hid (mayE_ok f)
  have MU := Lib.hid (show Fr.mayU f = (Fr.cnt f.u && Fr.noc f.c && decide (n = 0)) by unfold Fr.mayU; rw [h.len])
  have MC := Lib.hid (show Fr.mayC f = (Ev.seen f.c && decide (f.u = 0) && decide (n = 0)) by unfold Fr.mayC; rw [h.len])
  clear h KA
  generalize Fr.may f = z at *
  generalize Fr.mayK f = zk at *
  generalize Fr.mayP f = zp at *
  generalize Fr.mayE f = ze at *
  generalize Fr.mayU f = zu at *
  generalize Fr.mayC f = zc at *
  generalize evsOk f.es = bo at *
  generalize Fr.cnt f.u = bu at *
  generalize Ev.seen f.c = bs at *
  generalize Fr.noc f.c = bn at *
  unfold Fr.val
  by_cases hr0 : f.r < 0
  · have V := Lib.hid (show z = false by rw [M0.out]; simp; omega)
    clear M0 MK MP ME MU MC E
    go_enter Try.func41, Try.ntmps41
    go_wp2
    go_ret
    exact ⟨by rw [V.out]; rfl, U0.out⟩
  by_cases hr5 : 4 < f.r
  · have V := Lib.hid (show z = false by rw [M0.out]; simp; omega)
    clear M0 MK MP ME MU MC E
    go_enter Try.func41, Try.ntmps41
    go_wp2
    go_ret
    exact ⟨by rw [V.out]; rfl, U0.out⟩
  have VK : z = zk := by rw [M0.out, show decide (0 ≤ f.r ∧ f.r < 5) = true by simp; omega, Bool.true_and]
  subst VK
  clear M0
  obtain ⟨d0, hd0⟩ : ∃ d, decide (n = 0) = d := ⟨_, rfl⟩
  have hd0' : ((n : Int) == 0) = d0 := by rw [← hd0, Bool.eq_iff_iff]; simp
  have hd0'' : decide (0 < (n : Int)) = !d0 := by rw [← hd0, Bool.eq_iff_iff]; simp; omega
  obtain ⟨du, hdu⟩ : ∃ d, decide (f.u = 0) = d := ⟨_, rfl⟩
  have hdu' : (f.u == 0) = du := by rw [← hdu]; rfl
  rw [hd0] at MU MC
  rw [hdu] at MP ME MC
  have dp : decide (0 < n) = !d0 := by rw [← hd0, Bool.eq_iff_iff]; simp; omega
  rw [dp] at MP
  clear hd0 hdu
  go_enter Try.func41, Try.ntmps41
  go_upto_region 4 with (fail)
  refine wp_named (fun W hW => ?_)
  have hW' : W = w.alloc (.cells (f.cells (.slice A n cap)) 26) := hW
  rw [← hW'] at UK U0
  clear hW hW' E
  obtain ⟨a0, a1, a2, a3, a4, a5, a6, a7, a8⟩ := (UK.out W (Lex.Up.refl W)).fr
  have lt0 := (UK.out W (Lex.Up.refl W)).lt
  by_cases hk2 : f.k = 2
  · rw [hk2] at MK a0
    rw [if_neg (by omega), if_pos rfl] at MK
    have V := Lib.hid (show z = (bu && bn && d0) from MK.out.trans MU.out)
    clear MK MP ME MU MC CE CC hk2
    cases bu
    · go_wp2_with fail
      refine (CU.out _).mono ?_
      rintro x w1 ⟨rfl, hw1⟩
      rw [hw1]
      go_wp2
      go_ret
      exact ⟨by rw [V.out]; rfl, U0.out⟩
    cases bn
    · go_wp2_with fail
      refine (CU.out _).mono ?_
      rintro x w1 ⟨rfl, hw1⟩
      rw [hw1]
      go_wp2
      go_ret
      exact ⟨by rw [V.out]; rfl, U0.out⟩
    go_wp2_with fail
    refine (CU.out _).mono ?_
    rintro x w1 ⟨rfl, hw1⟩
    rw [hw1]
    go_wp2
    go_ret
    exact ⟨by rw [V.out]; rfl, U0.out⟩
  by_cases hk3 : f.k = 3
  · rw [hk3] at MK a0
    rw [if_neg (by omega), if_neg (by omega), if_pos rfl] at MK
    clear hk3 hk2
    have V := Lib.hid (show z = (bs && du && d0) from MK.out.trans MC.out)
    clear MK MP ME MU MC CE CU
    cases du
    · go_wp2
      go_ret
      exact ⟨by rw [V.out]; cases bs <;> rfl, U0.out⟩
    go_wp2_with fail
    refine (CC.out _).mono ?_
    rintro x w1 ⟨rfl, hb1⟩
    have U1 := Lib.hid (U0.out.trans hb1)
    obtain ⟨a0, a1, a2, a3, a4, a5, a6, a7, a8⟩ := (UK.out w1 hb1).fr
    clear hb1
    cases bs
    · go_wp2
      go_ret
      exact ⟨by rw [V.out]; rfl, U1.out⟩
    go_wp2
    go_ret
    exact ⟨by rw [V.out]; rfl, U1.out⟩
  by_cases hk5 : f.k = 5
  · rw [hk5] at MK a0
    rw [if_neg (by omega), if_neg (by omega), if_neg (by omega), if_neg (by omega), if_pos rfl] at MK
    clear hk3 hk2 hk5
    have V := Lib.hid (show z = (bs && du && d0) from MK.out.trans MC.out)
    clear MK MP ME MU MC CE CU
    cases du
    · go_wp2
      go_ret
      exact ⟨by rw [V.out]; cases bs <;> rfl, U0.out⟩
    go_wp2_with fail
    refine (CC.out _).mono ?_
    rintro x w1 ⟨rfl, hb1⟩
    have U1 := Lib.hid (U0.out.trans hb1)
    obtain ⟨a0, a1, a2, a3, a4, a5, a6, a7, a8⟩ := (UK.out w1 hb1).fr
    clear hb1
    cases bs
    · go_wp2
      go_ret
      exact ⟨by rw [V.out]; rfl, U1.out⟩
    go_wp2
    go_ret
    exact ⟨by rw [V.out]; rfl, U1.out⟩
  by_cases hk4 : f.k = 4
  · rw [hk4] at MK a0
    rw [if_neg (by omega), if_neg (by omega), if_neg (by omega), if_pos rfl] at MK
    have V := Lib.hid (show z = (du && bn && bo) from MK.out.trans ME.out)
    have UK4 := Lib.hid (show ∀ w', Lex.Up W w' → w'.cell? ⟨w.heap.size, 0, none⟩ = some (.int .i64 4) from fun w' h => by rw [← hk4]; exact (UK.out w' h).cell (j := 0) rfl)
    clear MK MP ME MU MC CC CU hk2 hk3 hk4 hk5
    cases du
    · go_wp2
      go_ret
      exact ⟨by rw [V.out]; rfl, U0.out⟩
    cases bn
    · go_wp2
      go_ret
      exact ⟨by rw [V.out]; rfl, U0.out⟩
    have CE' := CE.out W (SL.out W U0.out)
    go_wp2_with fail
    refine CE'.mono ?_
    rintro x w1 ⟨rfl, hb1⟩
    have U1 := Lib.hid (U0.out.trans hb1)
    have k0 := UK4.out w1 hb1
    clear hb1 a0 a1 a2 a3 a4 a5 a6 a7 a8
    cases bo
    · go_wp2
      go_ret
      exact ⟨by rw [V.out]; rfl, U1.out⟩
    go_wp2
    go_ret
    exact ⟨by rw [V.out]; rfl, U1.out⟩
  by_cases hk1 : f.k = 1
  rotate_left
  · rw [if_neg hk1, if_neg hk2, if_neg hk3, if_neg hk4, if_neg hk5] at MK
    have V := Lib.hid MK.out
    clear MK MP ME MU MC CC CU CE
    have q1 : (f.k == 1) = false := by simpa using hk1
    have q2 : (f.k == 2) = false := by simpa using hk2
    have q3 : (f.k == 3) = false := by simpa using hk3
    have q4 : (f.k == 4) = false := by simpa using hk4
    have q5 : (f.k == 5) = false := by simpa using hk5
    clear hk1 hk2 hk3 hk4 hk5
    go_wp2
    go_ret
    exact ⟨by rw [V.out]; rfl, U0.out⟩
  have MK1 : z = zp := by rw [MK.out, if_pos hk1]
  have V := Lib.hid (show z = ((f.es.all fun e => decide (e.r = f.r)) && !d0 && (du && bn && bo)) from MK1.trans MP.out)
  rw [hk1] at a0
  have UK1 := Lib.hid (show ∀ w', Lex.Up W w' → w'.cell? ⟨w.heap.size, 0, none⟩ = some (.int .i64 1) from fun w' h => by rw [← hk1]; exact (UK.out w' h).cell (j := 0) rfl)
  clear MK MP ME MU MC CC CU hk1 hk2 hk3 hk4 hk5 MK1
  go_wp2
  clear a0 a1 a2 a3 a4 a5 a6 a7 a8 lt0
  go_loopw [4] (fun v wr => MERel (fun j => (Ev.nth f.es j).r = f.r) n W v wr) (fun v _ => n - (intOf v).toNat)
  case atStart => exact ⟨0, by omega, rfl, Lib.hid (fun j hj => absurd hj (by omega)), Lib.hid (Lex.Up.refl W)⟩
  case round =>
    obtain ⟨k, hk, rfl, HA, UR⟩ := hrel
    obtain ⟨a0', a1, a2, a3, a4, a5, a6, a7, a8⟩ := (UK.out wr UR.out).fr
    have a0 := UK1.out wr UR.out
    clear a0'
    by_cases h5 : k < n
    · have h5' : (k : Int) < n := by omega
      obtain ⟨b, off, rfl⟩ := AD.out (by omega)
      obtain ⟨e0, e1, e2, e3, e4, e5, e6, e7, e8, e9, e10, e11⟩ := ev_at (SL.out wr (U0.out.trans UR.out)) h5
      have HZ := Lib.hid (show (Ev.nth f.es k).r ≠ f.r → z = false from fun h => by
        rw [V.out, not_all_nth (j := k) (by rw [NL.out]; exact h5) (by simpa using h)]; simp)
      have HN := Lib.hid (fun (h : (Ev.nth f.es k).r = f.r) => (show ∀ j, j < k + 1 → (Ev.nth f.es j).r = f.r from fun j hj => by
        rcases Nat.lt_succ_iff_lt_or_eq.1 hj with h1 | rfl
        · exact HA.out j h1
        · exact h))
      generalize hg : Ev.nth f.es k = e at e0 e1 e2 e3 e4 e5 e6 e7 e8 e9 e10 e11 HZ HN
      clear hg HA V e1 e2 e3 e4 e5 e6 e7 e8 e9 e10 e11
      have U1 := Lib.hid (UR.out.trans (Lex.Up.drew wr))
      by_cases hm : e.r = f.r
      · have hm' : (e.r != f.r) = false := by simp [hm]
        have HM := Lib.hid hm
        clear hm
        go_wp2
        go_region
        go_wp2
        go_roundw
        case rel => exact ⟨k + 1, by omega, by go_num, Lib.hid (HN.out HM.out), U1⟩
        case measure => simp [intOf]; omega
      · have hm' : (e.r != f.r) = true := by simpa [bne] using hm
        obtain rfl := HZ.out hm
        go_wp2
        go_region
        go_wp2
        go_ret
        exact ⟨rfl, U0.out.trans U1.out⟩
    · obtain rfl : k = n := by omega
      have hz : z = (!d0 && (du && bn && bo)) := by
        rw [V.out, all_nth (fun j hj => by have := HA.out j (by rw [← NL.out]; exact hj); simpa using this), Bool.true_and]
      have V1 := Lib.hid hz
      have U1 := Lib.hid (U0.out.trans UR.out)
      clear V hz HA
      cases du
      · go_wp2
        go_ret
        exact ⟨by rw [V1.out]; cases d0 <;> rfl, U1.out⟩
      cases bn
      · go_wp2
        go_ret
        exact ⟨by rw [V1.out]; cases d0 <;> rfl, U1.out⟩
      have CE' := CE.out wr (SL.out wr U1.out)
      go_wp2_with fail
      refine CE'.mono ?_
      rintro x w1 ⟨rfl, hb1⟩
      have U2 := Lib.hid (U1.out.trans hb1)
      have k0 := UK1.out w1 (UR.out.trans hb1)
      obtain ⟨_, k1, k2, k3, k4, k5, k6, k7, k8⟩ := (UK.out w1 (UR.out.trans hb1)).fr
      clear hb1 a0 a1 a2 a3 a4 a5 a6 a7 a8 CE' CE UR U1
      cases bo
      · go_wp2
        go_ret
        exact ⟨by rw [V1.out]; cases d0 <;> rfl, U2.out⟩
      cases d0
      · go_wp2
        go_ret
        exact ⟨by rw [V1.out]; rfl, U2.out⟩
      go_wp2
      go_ret
      exact ⟨by rw [V1.out]; rfl, U2.out⟩
end Go.Proofs.Ythgfbnkggdlokaa

