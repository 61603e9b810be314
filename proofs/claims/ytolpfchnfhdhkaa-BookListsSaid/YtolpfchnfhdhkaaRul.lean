/-
  The rules: the walks of rulesOf and of what they hold.
-/
import Derived.Test.YtolpfchnfhdhkaaSgw
namespace Go.Proofs.Ytolpfchnfhdhkaa
open Go.RowKit
set_option maxRecDepth 100000
set_option maxRecDepth 100000

theorem Gm.wpList_insert {K : Type} [DecidableEq K] {T : KeyT K} {w : World} {ops : Array Oper} {rest : List Oper} {o : Oper} {a : Act} {Q : Exit → Act → World → Prop} (hg : o.guard = none) (m x v : Operand) (t e : TypeId) (hop : o.op = Op.insert t m x v)
    (ht : Try.prog.underlying t = some (.map T.t e)) (b : Nat) (ms : List (K × Value)) (hm : a.eval m = .map (some b)) (h : Gm T w b ms) (y : K) (hx : a.eval x = T.val y) (val : Value) (hv : a.eval v = val)
    (k : ∀ w', Gm T w' b (Gm.put ms y val) → w.grownBy w' (some b) → wpList Try.prog ops Q rest (a.put o.dst undef) w') : wpList Try.prog ops Q (o :: rest) a w := by
  refine wpList_plain hg fun K' hK' => ?_
  obtain ⟨w', hrun, h1, h2⟩ := h.store t e ht y val
  unfold Oper.wp
  simp only [execOp, hop, hm, hx, hv, Sem.run_bind, hrun, Result.andThen_ok]
  exact hK' _ _ (k _ h1 h2)
namespace Bk
def sg (b0 b1 : Nat) : Value := .agg #[.map (some b0), .map (some b1)]
def rule1 (b0 b1 : Nat) : Value := .agg #[.func (.func 91) #[sg b0 b1] #[], .func (.func 92) #[] #[], .func (.func 93) #[] #[]]
def rule3 (bs b0 b1 : Nat) : Value := .agg #[.func (.func 94) #[sg b0 b1] #[], .func (.func 95) #[] #[.pointer (some ⟨bs, 0, none⟩)], .func (.func 97) #[] #[]]
def rule4 (bs : Nat) : Value := .agg #[.func (.func 98) #[] #[.pointer (some ⟨bs, 0, none⟩)], .func (.func 99) #[] #[.pointer (some ⟨bs, 0, none⟩)], .func (.func 100) #[] #[]]
def rules (bs b0 b1 : Nat) : List (Int × Value) := [(1, rule1 b0 b1), (3, rule3 bs b0 b1), (4, rule4 bs)]
def norule : Value := .agg #[.nilFunc, .nilFunc, .nilFunc]
end Bk
theorem zero_rule (w : World) : (zeroValue 96).run Try.prog w = .ok Bk.norule w := by
  have hi : (Try.prog.info? 96).map (fun i => (i.zero, i.size, i.bytes)) = some (some Bk.norule, 3, 24) := by kernel_rfl
  obtain ⟨i0, hi, hz0, hz1, hz2⟩ := info_parts hi
  simp [zeroValue, typeInfo, hi, hz0]
/-- What the rules of these events are in memory. -/
structure Rul (w : World) (B bm bs b0 b1 : Nat) (es : List Ev) : Prop where
  m : Gm intKey w bm (Bk.rules bs b0 b1)
  s : Blk w bs (ScSight b0 b1) 132
  g : Sgh w b0 b1 es
  hm : B ≤ bm
  hs : B ≤ bs
  h0 : B ≤ b0
  h1 : B ≤ b1
theorem Sgh.grown {w w' : World} {b0 b1 b : Nat} {es : List Ev} (h : Sgh w b0 b1 es) (hg : w.grownBy w' (some b)) (n0 : b0 ≠ b) (n1 : b1 ≠ b) : Sgh w' b0 b1 es := by
  obtain ⟨m0, m1, a, q, c, d⟩ := h
  exact ⟨m0, m1, a.grown hg (by simp [n0]), q, c.grown hg (by simp [n1]), d⟩
theorem Sgh.lt {w : World} {b0 b1 : Nat} {es : List Ev} (h : Sgh w b0 b1 es) : b0 < w.heap.size ∧ b1 < w.heap.size := by
  obtain ⟨m0, m1, a, q, c, d⟩ := h
  exact ⟨a.lt, c.lt⟩
theorem Rul.up {w w' : World} {B bm bs b0 b1 : Nat} {es : List Ev} (h : Rul w B bm bs b0 b1 es) (hu : Lex.Up w w') : Rul w' B bm bs b0 b1 es := ⟨h.m.up hu, h.s.up hu, h.g.up hu, h.hm, h.hs, h.h0, h.h1⟩

set_option maxHeartbeats 1600000 in
theorem rulesOf_any (es : List Ev) (A : Option Addr) (n cap : Nat) (w : World) (h : EvSl w A n cap es) :
    Calls Try.prog 64 #[.slice A n cap] w fun x w' => ∃ bm bs b0 b1, x = .returned (.map (some bm)) ∧ Rul w' w.heap.size bm bs b0 b1 es ∧ Lex.Up w w' := by
  have hmm := @run_makeMap Try.prog
  have C1 := Lib.hid (sightOf_any es A n cap w h)
  clear h
  go_enter Try.func64, Try.ntmps64
  go_wp2_with fail
  refine C1.out.mono ?_
  rintro x w1 ⟨b0, b1, rfl, hg, h0, h1, hu⟩
  have G1 := Lib.hid (hg.up ((Below.refl _ _).alloc (Nat.le_refl _) (.cells (ScSight b0 b1) 132)))
  have S1 := Lib.hid (Blk.new w1 (ScSight b0 b1) 132)
  have U1 := Lib.hid (hu.alloc hu.size (.cells (ScSight b0 b1) 132))
  have hz := hu.size
  have H0 := Lib.hid h0
  have H1 := Lib.hid h1
  have hlt := hg.lt
  clear hg hu h0 h1 C1
  go_upto_region 2 with (fail)
  refine wp_named (fun W hW => ?_)
  rw [← show W = w1.alloc (.cells (ScSight b0 b1) 132) from hW] at G1 S1 U1
  have hs : W.heap.size = w1.heap.size + 1 := by rw [hW]; simp
  clear hW
  have M0 := Lib.hid (Gm.new intKey W)
  have S2 := Lib.hid (S1.out.alloc (.map #[] 0))
  have G2 := Lib.hid (G1.out.up ((Below.refl _ _).alloc (Nat.le_refl _) (.map #[] 0)))
  have U2 := Lib.hid (U1.out.alloc U1.out.size (.map #[] 0))
  rw [hs] at M0
  clear S1 G1 U1
  have s0 : (W.alloc (.map #[] 0)).cell? ⟨w1.heap.size, 0, none⟩ = some (.map (some b0)) := S2.out.cell rfl
  have s1 : (W.alloc (.map #[] 0)).cell? ⟨w1.heap.size, 1, none⟩ = some (.map (some b1)) := S2.out.cell rfl
  go_wp2_with (refine Gm.wpList_insert (T := intKey) rfl _ _ _ _ _ rfl Try.underlying91 _ [] rfl M0.out 1 rfl _ rfl ?_)
  intro w3 hm hg
  have M3 := Lib.hid hm
  have S3 := Lib.hid (S2.out.grown hg (by simp))
  have G3 := Lib.hid (G2.out.grown hg (by omega) (by omega))
  have U3 := Lib.hid (below_by U2.out hg (by omega) (Nat.le_refl _))
  clear hm hg s0 s1 S2 G2 U2
  have s0 : w3.cell? ⟨w1.heap.size, 0, none⟩ = some (.map (some b0)) := S3.out.cell rfl
  have s1 : w3.cell? ⟨w1.heap.size, 1, none⟩ = some (.map (some b1)) := S3.out.cell rfl
  go_wp2_with (refine Gm.wpList_insert (T := intKey) rfl _ _ _ _ _ rfl Try.underlying91 _ _ rfl M3.out 3 rfl _ rfl ?_)
  intro w4 hm hg
  have M4 := Lib.hid hm
  have S4 := Lib.hid (S3.out.grown hg (by simp))
  have G4 := Lib.hid (G3.out.grown hg (by omega) (by omega))
  have U4 := Lib.hid (below_by U3.out hg (by omega) (Nat.le_refl _))
  clear hm hg s0 s1 S3 G3 U3
  have s0 : w4.cell? ⟨w1.heap.size, 0, none⟩ = some (.map (some b0)) := S4.out.cell rfl
  have s1 : w4.cell? ⟨w1.heap.size, 1, none⟩ = some (.map (some b1)) := S4.out.cell rfl
  go_wp2_with (refine Gm.wpList_insert (T := intKey) rfl _ _ _ _ _ rfl Try.underlying91 _ _ rfl M4.out 4 rfl _ rfl ?_)
  intro w5 hm hg
  have M5 := Lib.hid hm
  have S5 := Lib.hid (S4.out.grown hg (by simp))
  have G5 := Lib.hid (G4.out.grown hg (by omega) (by omega))
  have U5 := Lib.hid (below_by U4.out hg (by omega) (Nat.le_refl _))
  clear hm hg s0 s1 S4 G4 U4
  have s0 : w5.cell? ⟨w1.heap.size, 0, none⟩ = some (.map (some b0)) := S5.out.cell rfl
  have s1 : w5.cell? ⟨w1.heap.size, 1, none⟩ = some (.map (some b1)) := S5.out.cell rfl
  go_wp2
  go_ret
  exact ⟨_, w1.heap.size, b0, b1, rfl, ⟨M5.out, S5.out, G5.out, by omega, hz, H0.out, H1.out⟩, U5.out⟩

set_option maxHeartbeats 800000 in
/-- No Create is left out. -/
theorem never_any (e : Ev) (w : World) : Calls Try.prog 92 #[e.val] w fun x w' => x = .returned (.bool false) ∧ Lex.Up w w' := by
  have U0 := Lib.hid (show Lex.Up w (w.alloc (.cells e.cells 39)) from (Below.refl _ _).alloc (Nat.le_refl _) _)
  unfold Ev.cells at U0
  unfold Ev.val
  go_enter Try.func92, Try.ntmps92
  go_wp2
  go_ret
  exact ⟨rfl, U0.out⟩
theorem nothing_any (p : Value) (e : Ev) (w : World) : Calls Try.prog 93 #[p, e.val] w fun x w' => x = .returned (.tuple #[]) ∧ Lex.Up w w' := by
  have U0 := Lib.hid (show Lex.Up w (w.alloc (.cells e.cells 39)) from (Below.refl _ _).alloc (Nat.le_refl _) _)
  unfold Ev.cells at U0
  unfold Ev.val
  go_enter Try.func93, Try.ntmps93
  go_wp2
  go_end0
  exact ⟨rfl, U0.out⟩

set_option maxHeartbeats 1600000 in
theorem cov3_any (bs b0 b1 : Nat) (es : List Ev) (e : Ev) (w : World) (hS : Blk w bs (ScSight b0 b1) 132) (hg : Sgh w b0 b1 es) :
    Calls Try.prog 95 #[e.val, .pointer (some ⟨bs, 0, none⟩)] w fun x w' => x = .returned (.bool (Bk.underC es 3 e)) ∧ Lex.Up w w' := by
  obtain ⟨m0, m1, h0, hs0, h1, hs1⟩ := hg
  have CU := Lib.hid (fun w' (hu : Lex.Up w w') => under_any b0 (some b1) m0 es 3 e w' (h0.up hu) hs0)
  have U0 := Lib.hid (show Lex.Up w (w.alloc (.cells e.cells 39)) from (Below.refl _ _).alloc (Nat.le_refl _) _)
  have S0 := Lib.hid (hS.alloc (.cells e.cells 39))
  have lt := hS.lt
  clear h0 hs0 h1 hs1 hS
  generalize Bk.underC es 3 e = q at *
  have s0 : (w.alloc (.cells e.cells 39)).cell? ⟨bs, 0, none⟩ = some (.map (some b0)) := S0.out.cell rfl
  have s1 : (w.alloc (.cells e.cells 39)).cell? ⟨bs, 1, none⟩ = some (.map (some b1)) := S0.out.cell rfl
  unfold Ev.cells at *
  unfold Ev.val at *
  go_enter Try.func95, Try.ntmps95
  go_wp2_with fail
  refine (CU.out _ U0.out).mono ?_
  rintro x w1 ⟨rfl, hb⟩
  have U1 := Lib.hid (show Below w.heap.size w w1 from Below.trans U0.out (hb.mono U0.out.size))
  clear hb s0 s1
  go_wp2
  go_ret
  exact ⟨rfl, U1.out⟩
set_option maxHeartbeats 1600000 in
theorem cov4_any (bs b0 b1 : Nat) (es : List Ev) (e : Ev) (w : World) (hS : Blk w bs (ScSight b0 b1) 132) (hg : Sgh w b0 b1 es) :
    Calls Try.prog 99 #[e.val, .pointer (some ⟨bs, 0, none⟩)] w fun x w' => x = .returned (.bool (Bk.underC es 4 e)) ∧ Lex.Up w w' := by
  obtain ⟨m0, m1, h0, hs0, h1, hs1⟩ := hg
  have CU := Lib.hid (fun w' (hu : Lex.Up w w') => under_any b0 (some b1) m0 es 4 e w' (h0.up hu) hs0)
  have U0 := Lib.hid (show Lex.Up w (w.alloc (.cells e.cells 39)) from (Below.refl _ _).alloc (Nat.le_refl _) _)
  have S0 := Lib.hid (hS.alloc (.cells e.cells 39))
  have lt := hS.lt
  clear h0 hs0 h1 hs1 hS
  generalize Bk.underC es 4 e = q at *
  have s0 : (w.alloc (.cells e.cells 39)).cell? ⟨bs, 0, none⟩ = some (.map (some b0)) := S0.out.cell rfl
  have s1 : (w.alloc (.cells e.cells 39)).cell? ⟨bs, 1, none⟩ = some (.map (some b1)) := S0.out.cell rfl
  unfold Ev.cells at *
  unfold Ev.val at *
  go_enter Try.func99, Try.ntmps99
  go_wp2_with fail
  refine (CU.out _ U0.out).mono ?_
  rintro x w1 ⟨rfl, hb⟩
  have U1 := Lib.hid (show Below w.heap.size w w1 from Below.trans U0.out (hb.mono U0.out.size))
  clear hb s0 s1
  go_wp2
  go_ret
  exact ⟨rfl, U1.out⟩
set_option maxHeartbeats 3200000 in
theorem cnt4_any (bs b0 b1 : Nat) (es : List Ev) (e : Ev) (w : World) (hS : Blk w bs (ScSight b0 b1) 132) (hg : Sgh w b0 b1 es) :
    Calls Try.prog 98 #[e.val, .pointer (some ⟨bs, 0, none⟩)] w fun x w' => x = .returned (.bool (Bk.standC (Bk.first es es e.key) e && !Bk.underC es 5 e)) ∧ Lex.Up w w' := by
  obtain ⟨m0, m1, h0, hs0, h1, hs1⟩ := hg
  have CU := Lib.hid (fun w' (hu : Lex.Up w w') => under_any b0 (some b1) m0 es 5 e w' (h0.up hu) hs0)
  have CS := Lib.hid (fun w' (hu : Lex.Up w w') => stands_any b1 (some b0) m1 _ e w' (h1.up hu) (hs1 e.key))
  have U0 := Lib.hid (show Lex.Up w (w.alloc (.cells e.cells 39)) from (Below.refl _ _).alloc (Nat.le_refl _) _)
  have S0 := Lib.hid (hS.alloc (.cells e.cells 39))
  have K0 := Lib.hid (Blk.new w e.cells 39)
  have lt := hS.lt
  clear h0 hs0 h1 hs1 hS
  generalize Bk.underC es 5 e = q at *
  generalize Bk.standC _ e = p at *
  have s0 : (w.alloc (.cells e.cells 39)).cell? ⟨bs, 0, none⟩ = some (.map (some b0)) := S0.out.cell rfl
  have s1 : (w.alloc (.cells e.cells 39)).cell? ⟨bs, 1, none⟩ = some (.map (some b1)) := S0.out.cell rfl
  obtain ⟨W, hW⟩ : ∃ W, W = w.alloc (.cells e.cells 39) := ⟨_, rfl⟩
  rw [← hW] at s0 s1 U0 S0 K0
  obtain ⟨a0, a1, a2, a3, a4, a5, a6, a7, a8, a9, a10, a11⟩ := K0.out.e12
  unfold Ev.cells at hW
  unfold Ev.val at *
  go_enter Try.func98, Try.ntmps98
  go_upto_region 1 with (fail)
  refine wp_named (fun W2 hW2 => ?_)
  obtain rfl : W2 = W := by rw [hW2, hW]
  clear hW hW2
  go_wp2_with fail
  refine (CS.out _ U0.out).mono ?_
  rintro x w1 ⟨rfl, hb⟩
  have U1 := Lib.hid (show Below w.heap.size w w1 from Below.trans U0.out (hb.mono U0.out.size))
  have S1 := Lib.hid (S0.out.up hb)
  have K1 := Lib.hid (K0.out.up hb)
  clear hb s0 s1 CS a0 a1 a2 a3 a4 a5 a6 a7 a8 a9 a10 a11 S0 K0 U0
  have s0 : w1.cell? ⟨bs, 0, none⟩ = some (.map (some b0)) := S1.out.cell rfl
  have s1 : w1.cell? ⟨bs, 1, none⟩ = some (.map (some b1)) := S1.out.cell rfl
  obtain ⟨a0, a1, a2, a3, a4, a5, a6, a7, a8, a9, a10, a11⟩ := K1.out.e12
  cases p
  · go_wp2
    go_ret
    exact ⟨rfl, U1.out⟩
  · go_wp2_with fail
    refine (CU.out _ U1.out).mono ?_
    rintro x w2 ⟨rfl, hb⟩
    have U2 := Lib.hid (show Below w.heap.size w w2 from Below.trans U1.out (hb.mono U1.out.size))
    clear hb s0 s1 CU a0 a1 a2 a3 a4 a5 a6 a7 a8 a9 a10 a11
    go_wp2
    go_ret
    exact ⟨by cases q <;> rfl, U2.out⟩
end Go.Proofs.Ytolpfchnfhdhkaa
