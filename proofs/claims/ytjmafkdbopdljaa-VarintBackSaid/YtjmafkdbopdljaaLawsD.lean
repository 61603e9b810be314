/-
  The walk of VarintAll.
-/
import Derived.Test.YtjmafkdbopdljaaLawsA
import Derived.Test.YtjmafkdbopdljaaRef
import Derived.Test.YtjmafkdbopdljaaLex
import Derived.Deep.DrawnRows
namespace Go.Proofs.Ytjmafkdbopdljaa
open Go.RowKit
attribute [local go_sem ↓] Go.wp_at_zero Go.wp_at_succ

theorem below_two {B : Nat} {w w0 w1 w2 : World} (h : Below B w w0) (hB : B ≤ w0.heap.size) (h1 : Below w0.drew.heap.size w0.drew w1) (h2 : Below w1.heap.size w1 w2) : Below B w w2 :=
  (h.drew.trans (h1.mono hB)).trans (h2.mono (Nat.le_trans hB h1.size))

/-- The fact of a slice of these bytes. -/
def slcFact (xs : List Nat) : Lex.Fact := fun v w => ∃ A cap, v = .slice A xs.length cap ∧ Slc w A xs.length cap xs
theorem slcFact_up (xs : List Nat) : Lex.UpC (slcFact xs) := fun v w w' hu h => by
  obtain ⟨A, cap, rfl, hs⟩ := h
  exact ⟨A, cap, rfl, hs.below hu⟩
theorem call_slc {P : Program} {f : FuncId} {args : Array Value} {w : World} {xs : List Nat} (h : Calls P f args w (RetBytes w xs)) (hx : ∀ x ∈ xs, x < 256) :
    Calls P f args w fun e w' => ∃ v, e = .returned v ∧ Lex.Up w w' ∧ slcFact xs v w' :=
  h.mono fun e w' he => by
    obtain ⟨A, cap, rfl, hown, hb⟩ := he
    exact ⟨_, rfl, hb, A, cap, rfl, slc_of_own hown hx⟩

set_option maxRecDepth 100000 in
set_option maxHeartbeats 4000000 in
theorem law_all (a : Nat) (A : Option Addr) (n cap : Nat) (xs : List Nat) (w : World) (ha : a < 18446744073709551616) (hs : Slc w A n cap xs) :
    Calls Try.prog 3 #[.int .u64 a, .slice A n cap] w fun e w' => e = .returned (.bool true) ∧ Below w.heap.size w w' := by
  have FEW := Lib.hid (fun w => few_any A n cap w hs.2.1 hs.2.2.1)
  obtain ⟨m, hm⟩ : ∃ m, min n 20 = m := ⟨_, rfl⟩
  have S := Lib.hid (hs.take_ (u := m) (by omega))
  rw [hm] at FEW
  clear hm hs
  generalize xs.take m = ys at *
  have C0 := Lib.hid (shown_any w)
  have C1 := Lib.hid (fun w => put_any a w ha)
  have C2 := Lib.hid (fun w => rput_any a w ha)
  have PL := Lib.hid (Pl.put_lt ha)
  have CT := Lib.hid (fun w (h : Slc w A m cap ys) => take_any A m cap ys w h)
  have CR := Lib.hid (fun w (h : Slc w A m cap ys) => rtake_any A m cap ys w h)
  generalize Pl.take ys = t at *
  obtain ⟨t1, t2, t3⟩ := t
  have hst := str_eq PL.out PL.out
  rw [decide_eq_true rfl] at hst
  generalize Pl.put a = p at *
  clear ha
  go_enter Try.func3, Try.ntmps3
  go_wp2_with fail
  refine C0.out.mono ?_
  rintro e w1 ⟨rfl, hb1⟩
  have S1 := Lib.hid (S.out.below hb1)
  go_wp2_with fail
  refine (FEW.out _).mono ?_
  rintro e w' ⟨rfl, rfl⟩
  go_wp2_with fail
  refine (CT.out _ S1.out).mono ?_
  rintro e w' ⟨rfl, rfl⟩
  go_wp2_with fail
  refine (FEW.out _).mono ?_
  rintro e w' ⟨rfl, rfl⟩
  go_wp2_with fail
  refine (CR.out _ S1.out).mono ?_
  rintro e w2 ⟨rfl, hb2⟩
  have HB := Lib.hid (hb1.trans (hb2.mono hb1.size))
  have HS := Lib.hid hb1.size
  clear hb1 hb2
  go_wp2
  refine Lex.wp_region_lex (by kernel_rfl) (by kernel_rfl) (by rfl) ?_
  refine Lex.lex_pure (c := ?_) (by rfl) (by rfl) (fun w' hC => ?_) (by rfl) ?_
  rotate_left 1
  · go_simp; rfl
  simp only [Act.put, List.setIfInBounds_toArray, List.set_cons_zero, List.set_cons_succ]
  refine Lex.lex_pure (c := ?_) (by rfl) (by rfl) (fun w' hC => ?_) (by rfl) ?_
  rotate_left 1
  · go_simp; rfl
  simp only [Act.put, List.setIfInBounds_toArray, List.set_cons_zero, List.set_cons_succ]
  refine Lex.lex_pure (c := ?_) (by rfl) (by rfl) (fun w' hC => ?_) (by rfl) ?_
  rotate_left 1
  · go_simp; rfl
  simp only [Act.put, List.setIfInBounds_toArray, List.set_cons_zero, List.set_cons_succ]
  refine Lex.lex_call (f := 13) (args := #[.int .u64 a]) 30 (slcFact p) (by rfl) (by rfl) (by rfl) (slcFact_up _) (fun w' => by go_simp) (fun w' hC => call_slc (C1.out w') PL.out) (by rfl) ?_
  refine Lex.lex_of (c := ?_) (t := 30) (R := slcFact p) (by rfl) (fun v => by rfl) (fun w' hC v hv => ?_) (by rfl) ?_
  rotate_left 1
  · obtain ⟨A1, c1, rfl, hs1⟩ := hv
    have hcv := conv_slc hs1
    go_simp; rfl
  simp only [Act.put, List.setIfInBounds_toArray, List.set_cons_zero, List.set_cons_succ]
  refine Lex.lex_pure (c := ?_) (by rfl) (by rfl) (fun w' hC => ?_) (by rfl) ?_
  rotate_left 1
  · go_simp; rfl
  simp only [Act.put, List.setIfInBounds_toArray, List.set_cons_zero, List.set_cons_succ]
  refine Lex.lex_call (f := 14) (args := #[.int .u64 a]) 33 (slcFact p) (by rfl) (by rfl) (by rfl) (slcFact_up _) (fun w' => by go_simp) (fun w' hC => call_slc (C2.out w') PL.out) (by rfl) ?_
  refine Lex.lex_of (c := ?_) (t := 33) (R := slcFact p) (by rfl) (fun v => by rfl) (fun w' hC v hv => ?_) (by rfl) ?_
  rotate_left 1
  · obtain ⟨A1, c1, rfl, hs1⟩ := hv
    have hcv := conv_slc hs1
    go_simp; rfl
  simp only [Act.put, List.setIfInBounds_toArray, List.set_cons_zero, List.set_cons_succ]
  refine Lex.lex_pure (c := ?_) (by rfl) (by rfl) (fun w' hC => ?_) (by rfl) ?_
  rotate_left 1
  · go_simp; rfl
  simp only [Act.put, List.setIfInBounds_toArray, List.set_cons_zero, List.set_cons_succ]
  refine Lex.lex_pure (c := ?_) (by rfl) (by rfl) (fun w' hC => ?_) (by rfl) ?_
  rotate_left 1
  · go_simp; rfl
  simp only [Act.put, List.setIfInBounds_toArray, List.set_cons_zero, List.set_cons_succ]
  refine Lex.lex_pure (c := ?_) (by rfl) (by rfl) (fun w' hC => ?_) (by rfl) ?_
  rotate_left 1
  · go_simp; rfl
  simp only [Act.put, List.setIfInBounds_toArray, List.set_cons_zero, List.set_cons_succ]
  refine Lex.lex_pure (c := ?_) (by rfl) (by rfl) (fun w' hC => ?_) (by rfl) ?_
  rotate_left 1
  · go_simp; rfl
  simp only [Act.put, List.setIfInBounds_toArray, List.set_cons_zero, List.set_cons_succ]
  refine Lex.lex_pure (c := ?_) (by rfl) (by rfl) (fun w' hC => ?_) (by rfl) ?_
  rotate_left 1
  · go_simp; rfl
  simp only [Act.put, List.setIfInBounds_toArray, List.set_cons_zero, List.set_cons_succ]
  refine Lex.lex_pure (c := ?_) (by rfl) (by rfl) (fun w' hC => ?_) (by rfl) ?_
  rotate_left 1
  · go_simp; rfl
  simp only [Act.put, List.setIfInBounds_toArray, List.set_cons_zero, List.set_cons_succ]
  refine Lex.lex_pure (c := ?_) (by rfl) (by rfl) (fun w' hC => ?_) (by rfl) ?_
  rotate_left 1
  · go_simp; rfl
  simp only [Act.put, List.setIfInBounds_toArray, List.set_cons_zero, List.set_cons_succ]
  refine Lex.lex_pure (c := ?_) (by rfl) (by rfl) (fun w' hC => ?_) (by rfl) ?_
  rotate_left 1
  · go_simp; rfl
  simp only [Act.put, List.setIfInBounds_toArray, List.set_cons_zero, List.set_cons_succ]
  refine Lex.lex_pure (c := ?_) (by rfl) (by rfl) (fun w' hC => ?_) (by rfl) ?_
  rotate_left 1
  · go_simp; rfl
  simp only [Act.put, List.setIfInBounds_toArray, List.set_cons_zero, List.set_cons_succ]
  refine Lex.lex_pure (c := ?_) (by rfl) (by rfl) (fun w' hC => ?_) (by rfl) ?_
  rotate_left 1
  · go_simp; rfl
  simp only [Act.put, List.setIfInBounds_toArray, List.set_cons_zero, List.set_cons_succ]
  refine Lex.lex_pure (c := ?_) (by rfl) (by rfl) (fun w' hC => ?_) (by rfl) ?_
  rotate_left 1
  · go_simp; rfl
  simp only [Act.put, List.setIfInBounds_toArray, List.set_cons_zero, List.set_cons_succ]
  refine Lex.lex_pure (c := ?_) (by rfl) (by rfl) (fun w' hC => ?_) (by rfl) ?_
  rotate_left 1
  · go_simp; rfl
  simp only [Act.put, List.setIfInBounds_toArray, List.set_cons_zero, List.set_cons_succ]
  refine Lex.lex_pure (c := ?_) (by rfl) (by rfl) (fun w' hC => ?_) (by rfl) ?_
  rotate_left 1
  · go_simp; rfl
  simp only [Act.put, List.setIfInBounds_toArray, List.set_cons_zero, List.set_cons_succ]
  refine Lex.lex_pure (c := ?_) (by rfl) (by rfl) (fun w' hC => ?_) (by rfl) ?_
  rotate_left 1
  · go_simp; rfl
  simp only [Act.put, List.setIfInBounds_toArray, List.set_cons_zero, List.set_cons_succ]
  refine Lex.lex_pure (c := ?_) (by rfl) (by rfl) (fun w' hC => ?_) (by rfl) ?_
  rotate_left 1
  · go_simp; rfl
  simp only [Act.put, List.setIfInBounds_toArray, List.set_cons_zero, List.set_cons_succ]
  refine Lex.lex_pure (c := ?_) (by rfl) (by rfl) (fun w' hC => ?_) (by rfl) ?_
  rotate_left 1
  · go_simp; rfl
  simp only [Act.put, List.setIfInBounds_toArray, List.set_cons_zero, List.set_cons_succ]
  refine Lex.lex_pure (c := ?_) (by rfl) (by rfl) (fun w' hC => ?_) (by rfl) ?_
  rotate_left 1
  · go_simp; rfl
  simp only [Act.put, List.setIfInBounds_toArray, List.set_cons_zero, List.set_cons_succ]
  refine Lex.lex_pure (c := ?_) (by rfl) (by rfl) (fun w' hC => ?_) (by rfl) ?_
  rotate_left 1
  · go_simp; rfl
  simp only [Act.put, List.setIfInBounds_toArray, List.set_cons_zero, List.set_cons_succ]
  refine Lex.lex_nil (fun w' hC => ?_)
  intro v1 _ v2 _
  simp only [Lex.fill, Act.put, List.setIfInBounds_toArray, List.set_cons_zero, List.set_cons_succ]
  go_wp2
  go_ret
  exact ⟨rfl, HB.out.trans (hC.mono HB.out.size)⟩
end Go.Proofs.Ytjmafkdbopdljaa
