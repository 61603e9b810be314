/-
  What events are about (things), plain and as keys of a map; the walk of thingOf; what all events of a thing had seen; the walks of under and lives.
-/
import Derived.Test.YtolpfchnfhdhkaaGm
import Derived.Test.YtolpfchnfhdhkaaEvBl
import Derived.Test.YtolpfchnfhdhkaaEvSl
import Derived.Deep.RegionLaw
import Derived.Deep.DeepCutAuto
namespace Go.Proofs.Ytolpfchnfhdhkaa
open Go.RowKit
set_option maxRecDepth 100000
set_option maxRecDepth 100000

structure Tg where
  k : Int
  key : ByteArray
  l : Int
  v : ByteArray
deriving DecidableEq
namespace Tg
def val (t : Tg) : Value := .agg #[.int .i64 t.k, .string t.key, .int .i64 t.l, .string t.v]
def cells (t : Tg) : Array Value := #[.int .i64 t.k, .string t.key, .int .i64 t.l, .string t.v]
theorem ext_iff' (a b : Tg) : a = b ↔ a.k = b.k ∧ a.key = b.key ∧ a.l = b.l ∧ a.v = b.v := by cases a; cases b; simp
theorem inj {a b : Tg} (h : a.val = b.val) : a = b := by
  cases a; cases b
  simp [val] at h
  simp [h]
/-- What an event is about, as one of this kind has it. -/
def of (k : Int) (e : Ev) : Tg := if k = 3 then ⟨k, e.key, e.l, ⟨#[]⟩⟩ else if k = 4 ∨ k = 5 then ⟨k, e.key, e.l, e.v⟩ else ⟨k, e.key, 0, ⟨#[]⟩⟩
end Tg
theorem tolist_iff (a b : ByteArray) : a.toList = b.toList ↔ a = b := by
  have h := beq_toListBytes a b
  rw [beq_bytes] at h
  constructor
  · intro e; rw [e] at h; simp at h; exact h
  · rintro rfl; rfl
theorem eq_tg4 (a0 b0 a2 b2 : Int) (a1 b1 a3 b3 : ByteArray) (w : World) : (Op.equalIn 10000 145 (.agg #[.int .i64 a0, .string a1, .int .i64 a2, .string a3]) (.agg #[.int .i64 b0, .string b1, .int .i64 b2, .string b3])).run Try.prog w = .ok (decide (a0 = b0 ∧ a1 = b1 ∧ a2 = b2 ∧ a3 = b3)) w := by
  have u5 := Try.underlying3
  have a5 := Try.isAgg3
  have z5 := Try.sizeOf3
  have u9 := Try.underlying9
  have a9 := Try.isAgg9
  have z9 := Try.sizeOf9
  have e1 := beq_bytes a1 b1
  have e3 := beq_bytes a3 b3
  rw [show (10000 : Nat) = 9999 + 1 from rfl, run_equalIn_struct w 9999 145 _ _ (by kernel_rfl) (by kernel_rfl)]
  have u23 := Try.underlying145
  go_simp
  by_cases h0 : a0 = b0 <;> by_cases h1 : a1 = b1 <;> by_cases h2 : a2 = b2 <;> by_cases h3 : a3 = b3 <;> simp [h0, h1, h2, h3, tolist_iff]
theorem eq_tg (a b : Tg) (w : World) : (Op.equal 145 a.val b.val).run Try.prog w = .ok (decide (a = b)) w := by
  have := eq_tg4 a.k b.k a.l b.l a.key b.key a.v b.v w
  unfold Tg.val
  show (Op.equalIn 10000 _ _ _).run _ _ = _
  rw [this]
  simp only [Tg.ext_iff']
theorem check_tg (m : Tg) (em : Bool) (w : World) : (Instr.checkKey em 10000 145 m.val).run Try.prog w = .ok () w := by
  have u5 := Try.underlying3
  have a5 := Try.isAgg3
  have z5 := Try.sizeOf3
  have u9 := Try.underlying9
  have a9 := Try.isAgg9
  have z9 := Try.sizeOf9
  have u23 := Try.underlying145
  have hI : ∀ x w, (Instr.checkKey em 9999 3 (.int .i64 x)).run Try.prog w = .ok () w := fun x w => MapKept.run_checkKey (P := Try.prog) (k := .int .i64 x) u5 (by simp [MapKept.IsKey]) em 9998
  have hS : ∀ x w, (Instr.checkKey em 9999 9 (.string x)).run Try.prog w = .ok () w := fun x w => MapKept.run_checkKey (P := Try.prog) (k := .string x) u9 (by simp [MapKept.IsKey]) em 9998
  unfold Tg.val
  rw [show (10000 : Nat) = 9999 + 1 from rfl, Instr.checkKey]
  generalize 9999 = N at *
  go_simp
theorem asking_tg (m : Tg) (w : World) : ∀ (l : List MapEntry) (ms : List (Tg × Value)) (i : Nat), l.map (fun e => (e.key, e.val)) = ms.map (fun p => (p.1.val, p.2)) →
    (Instr.findAsking 145 m.val l i).run Try.prog w = .ok (Gm.find ms m i) w
  | [], ms, i, h => by
    cases ms with
    | nil => rfl
    | cons p ms => simp at h
  | e :: l, ms, i, h => by
    cases ms with
    | nil => simp at h
    | cons p ms =>
      obtain ⟨k, v⟩ := p
      simp only [List.map_cons, List.cons.injEq, Prod.mk.injEq] at h
      obtain ⟨⟨hk, hv⟩, hl⟩ := h
      have ih := asking_tg m w l ms (i + 1) hl
      rw [Instr.findAsking, Gm.find]
      simp only [Sem.run_bind, hk, eq_tg, Result.andThen_ok, hv]
      by_cases hm : m = k
      · simp [hm]
      · simp [hm, ih]
def tgKey : KeyT Tg where
  t := 145
  val := Tg.val
  inj := fun a b h => Tg.inj h
  find := fun m w l ms h => by
    rw [run_findKey_eq (P := Try.prog) w (by kernel_rfl)]
    exact asking_tg m w l ms 0 h
  chk := fun m em w => check_tg m em w
  stays := fun m w => by simp [Instr.keyThatStays, Tg.val, Instr.sameBits, beq_bytes]

set_option maxHeartbeats 800000 in
theorem thingOf_any (k : Int) (e : Ev) (w : World) : Calls Try.prog 118 #[.int .i64 k, e.val] w fun x w' => x = .returned (Tg.of k e).val ∧ Below w.heap.size w w' := by
  obtain ⟨t, ht⟩ : ∃ t, Tg.of k e = t := ⟨_, rfl⟩
  rw [ht]
  unfold Tg.of at ht
  unfold Ev.val
  by_cases h3 : k = 3
  · subst h3
    rw [if_pos rfl] at ht
    subst ht
    go_enter Try.func118, Try.ntmps118
    go_wp2
    exact bodyPost_ret (v := Tg.val _) (by simp [results, Try.results118, go_sem, Tg.val]) rfl ⟨rfl, (((Below.refl w.heap.size w).alloc (Nat.le_refl _) _).alloc (by simp) _).alloc (by simp; omega) _⟩
  have d3 : (k == 3) = false := by simpa using h3
  rw [if_neg h3] at ht
  by_cases h4 : k = 4
  · subst h4
    rw [if_pos (.inl rfl)] at ht
    subst ht
    go_enter Try.func118, Try.ntmps118
    go_wp2
    go_region
    go_wp2
    exact bodyPost_ret (v := Tg.val _) (by simp [results, Try.results118, go_sem, Tg.val]) rfl ⟨rfl, ((((Below.refl w.heap.size w).alloc (Nat.le_refl _) _).alloc (by simp) _).alloc (by simp; omega) _).drew⟩
  have d4 : (k == 4) = false := by simpa using h4
  by_cases h5 : k = 5
  · subst h5
    rw [if_pos (.inr rfl)] at ht
    subst ht
    go_enter Try.func118, Try.ntmps118
    go_wp2
    go_region
    go_wp2
    exact bodyPost_ret (v := Tg.val _) (by simp [results, Try.results118, go_sem, Tg.val]) rfl ⟨rfl, ((((Below.refl w.heap.size w).alloc (Nat.le_refl _) _).alloc (by simp) _).alloc (by simp; omega) _).drew⟩
  have d5 : (k == 5) = false := by simpa using h5
  rw [if_neg (by omega)] at ht
  subst ht
  clear h3 h4 h5
  go_enter Try.func118, Try.ntmps118
  go_wp2
  exact bodyPost_ret (v := Tg.val _) (by simp [results, Try.results118, go_sem, Tg.val]) rfl ⟨rfl, (((Below.refl w.heap.size w).alloc (Nat.le_refl _) _).alloc (by simp) _).alloc (by simp; omega) _⟩

theorem Blk.e12 {w : World} {b : Nat} {e : Ev} {t : TypeId} (h : Blk w b e.cells t) : w.cell? ⟨b, 0, none⟩ = some (.int .i64 e.r) ∧ w.cell? ⟨b, 1, none⟩ = some (.int .i64 e.n) ∧ w.cell? ⟨b, 2, none⟩ = some (.int .i64 e.c.c0) ∧
    w.cell? ⟨b, 3, none⟩ = some (.int .i64 e.c.c1) ∧ w.cell? ⟨b, 4, none⟩ = some (.int .i64 e.c.c2) ∧ w.cell? ⟨b, 5, none⟩ = some (.int .i64 e.c.c3) ∧ w.cell? ⟨b, 6, none⟩ = some (.int .i64 e.c.c4) ∧ w.cell? ⟨b, 7, none⟩ = some (.int .i64 e.h) ∧
    w.cell? ⟨b, 8, none⟩ = some (.int .i64 e.k) ∧ w.cell? ⟨b, 9, none⟩ = some (.string e.key) ∧ w.cell? ⟨b, 10, none⟩ = some (.int .i64 e.l) ∧ w.cell? ⟨b, 11, none⟩ = some (.string e.v) :=
  ⟨h.cell rfl, h.cell rfl, h.cell rfl, h.cell rfl, h.cell rfl, h.cell rfl, h.cell rfl, h.cell rfl, h.cell rfl, h.cell rfl, h.cell rfl, h.cell rfl⟩
namespace Bk
/-- What all events of a thing together had seen. -/
def seen (es : List Ev) (t : Tg) : Ck := es.foldl (fun c x => if Tg.of x.k x = t then Ck.join c x.c else c) Ck.zero
theorem seen_add (es : List Ev) (e : Ev) (t : Tg) : seen (es ++ [e]) t = if Tg.of e.k e = t then Ck.join (seen es t) e.c else seen es t := by
  simp [seen, List.foldl_append]
def SeenOk (ms : List (Tg × Value)) (es : List Ev) : Prop := ∀ t, (Gm.get ms t).getD Ck.zero.val = (seen es t).val
theorem seenOk_nil : SeenOk [] [] := fun _ => rfl
theorem seenOk_add {ms : List (Tg × Value)} {es : List Ev} (h : SeenOk ms es) (e : Ev) : SeenOk (Gm.put ms (Tg.of e.k e) (Ck.join (seen es (Tg.of e.k e)) e.c).val) (es ++ [e]) := fun t => by
  rw [Gm.get_put, seen_add]
  by_cases ht : t = Tg.of e.k e
  · subst ht; rw [if_pos rfl, if_pos rfl]; rfl
  · rw [if_neg ht, if_neg (fun e => ht e.symm)]; exact h t
/-- Whether one of this kind, of the thing of e, is above e. -/
def underC (es : List Ev) (k : Int) (e : Ev) : Bool := Ck.has (seen es (Tg.of k e)) e.r e.n
end Bk
theorem zero_clk (w : World) : (zeroValue 24).run Try.prog w = .ok Ck.zero.val w := by
  have hi : (Try.prog.info? 24).map (fun i => (i.zero, i.size, i.bytes)) = some (some Ck.zero.val, 5, 40) := by kernel_rfl
  obtain ⟨i0, hi, hz0, hz1, hz2⟩ := info_parts hi
  simp [zeroValue, typeInfo, hi, hz0]

set_option maxHeartbeats 800000 in
theorem under_any (b0 : Nat) (m1 : Option Nat) (ms : List (Tg × Value)) (es : List Ev) (k : Int) (e : Ev) (w : World) (hM : Gm tgKey w b0 ms) (hS : Bk.SeenOk ms es) :
    Calls Try.prog 96 #[.agg #[.map (some b0), .map m1], .int .i64 k, e.val] w fun x w' => x = .returned (.bool (Bk.underC es k e)) ∧ Below w.heap.size w w' := by
  have CT := Lib.hid (fun w => thingOf_any k e w)
  have CB := Lib.hid (fun w => show Calls Try.prog 117 #[e.val, .agg #[.int .i64 0, .int .i64 0, .int .i64 (Bk.seen es (Tg.of k e)).c0, .int .i64 (Bk.seen es (Tg.of k e)).c1, .int .i64 (Bk.seen es (Tg.of k e)).c2, .int .i64 (Bk.seen es (Tg.of k e)).c3, .int .i64 (Bk.seen es (Tg.of k e)).c4, .int .i64 0, .int .i64 0, .string ⟨#[]⟩, .int .i64 0, .string ⟨#[]⟩]] w fun x w' => x = .returned (.bool (Ck.has (Bk.seen es (Tg.of k e)) e.r e.n)) ∧ Below w.heap.size w w' from below_any e ⟨0, 0, Bk.seen es (Tg.of k e), 0, 0, ⟨#[]⟩, 0, ⟨#[]⟩⟩ w)
  have LK := Lib.hid (fun w' (hu : Lex.Up w w') => show (Instr.lookup 129 (.map (some b0)) (Tg.of k e).val false).run Try.prog w' = .ok (Bk.seen es (Tg.of k e)).val w' from (by have := (Gm.look 129 24 Try.underlying129 (zero_clk w') (hM.up hu) (Tg.of k e) false); rw [hS] at this; exact this))
  unfold Bk.underC
  generalize Bk.seen es (Tg.of k e) = c at *
  generalize Tg.of k e = t at *
  clear hM hS
  have S0 := Lib.hid ((Blk.new w #[.map (some b0), .map m1] 132).alloc (.cells e.cells 39))
  have K0 := Lib.hid (Blk.new (w.alloc (.cells #[.map (some b0), .map m1] 132)) e.cells 39)
  have U0 := Lib.hid (show Below w.heap.size w ((w.alloc (.cells #[.map (some b0), .map m1] 132)).alloc (.cells e.cells 39)) from ((Below.refl _ _).alloc (Nat.le_refl _) _).alloc (by simp) _)
  obtain ⟨W, hW⟩ : ∃ W, W = (w.alloc (.cells #[.map (some b0), .map m1] 132)).alloc (.cells e.cells 39) := ⟨_, rfl⟩
  rw [← hW] at S0 K0 U0
  simp only [World.size_alloc] at K0
  unfold Ev.cells at hW
  unfold Ev.val at *
  unfold Ck.val at *
  go_enter Try.func96, Try.ntmps96
  go_upto_region 1 with (fail)
  refine wp_named (fun W2 hW2 => ?_)
  obtain rfl : W2 = W := by rw [hW2, hW]
  clear hW hW2
  refine Lex.wp_region_lex (by kernel_rfl) (by kernel_rfl) (by rfl) ?_
  repeat (first | (refine Lex.lex_skip (by rfl) (by rfl) (by rfl) ?_; simp only [Act.put, List.setIfInBounds_toArray, List.set_cons_zero, List.set_cons_succ]) | (refine Lex.lex_pure (c := ?_) (by rfl) (by rfl) (fun w' hC => ?_) (by rfl) ?_; rotate_left 1; (obtain ⟨a0, a1, a2, a3, a4, a5, a6, a7, a8, a9, a10, a11⟩ := (K0.out.up hC).e12; have s0 : w'.cell? ⟨w.heap.size, 0, none⟩ = some (.map (some b0)) := (S0.out.up hC).cell rfl; go_simp; rfl); simp only [Act.put, List.setIfInBounds_toArray, List.set_cons_zero, List.set_cons_succ]))
  refine Lex.lex_callv (f := 118) (args := #[.int .i64 k, .agg #[.int .i64 e.r, .int .i64 e.n, .int .i64 e.c.c0, .int .i64 e.c.c1, .int .i64 e.c.c2, .int .i64 e.c.c3, .int .i64 e.c.c4, .int .i64 e.h, .int .i64 e.k, .string e.key, .int .i64 e.l, .string e.v]]) (t.val) (by rfl) (by rfl) (fun w' => by go_simp) (fun w' hC => CT.out w') (by rfl) ?_
  simp only [Act.put, List.setIfInBounds_toArray, List.set_cons_zero, List.set_cons_succ]
  repeat (first | (refine Lex.lex_skip (by rfl) (by rfl) (by rfl) ?_; simp only [Act.put, List.setIfInBounds_toArray, List.set_cons_zero, List.set_cons_succ]) | (refine Lex.lex_pure (c := ?_) (by rfl) (by rfl) (fun w' hC => ?_) (by rfl) ?_; rotate_left 1; (have lk := LK.out w' (U0.out.trans (hC.mono U0.out.size)); go_simp; rfl); simp only [Act.put, List.setIfInBounds_toArray, List.set_cons_zero, List.set_cons_succ]))
  refine Lex.lex_callv (f := 117) (args := #[.agg #[.int .i64 e.r, .int .i64 e.n, .int .i64 e.c.c0, .int .i64 e.c.c1, .int .i64 e.c.c2, .int .i64 e.c.c3, .int .i64 e.c.c4, .int .i64 e.h, .int .i64 e.k, .string e.key, .int .i64 e.l, .string e.v], .agg #[.int .i64 0, .int .i64 0, .int .i64 c.c0, .int .i64 c.c1, .int .i64 c.c2, .int .i64 c.c3, .int .i64 c.c4, .int .i64 0, .int .i64 0, .string ⟨#[]⟩, .int .i64 0, .string ⟨#[]⟩]]) (.bool (Ck.has c e.r e.n)) (by rfl) (by rfl) (fun w' => by go_simp) (fun w' hC => CB.out w') (by rfl) ?_
  simp only [Act.put, List.setIfInBounds_toArray, List.set_cons_zero, List.set_cons_succ]
  repeat (first | (refine Lex.lex_skip (by rfl) (by rfl) (by rfl) ?_; simp only [Act.put, List.setIfInBounds_toArray, List.set_cons_zero, List.set_cons_succ]) | (refine Lex.lex_pure (c := ?_) (by rfl) (by rfl) (fun w' hC => ?_) (by rfl) ?_; rotate_left 1; (go_simp; rfl); simp only [Act.put, List.setIfInBounds_toArray, List.set_cons_zero, List.set_cons_succ]))
  refine Lex.lex_nil (fun w2 hC => ?_)
  simp only [Lex.fill]
  have U2 := Lib.hid (show Below w.heap.size w w2 from U0.out.trans (hC.mono U0.out.size))
  clear hC
  go_wp2
  go_ret
  exact ⟨rfl, U2.out⟩

set_option maxHeartbeats 800000 in
theorem lives_any (b0 : Nat) (m1 : Option Nat) (ms : List (Tg × Value)) (es : List Ev) (e : Ev) (w : World) (hM : Gm tgKey w b0 ms) (hS : Bk.SeenOk ms es) :
    Calls Try.prog 91 #[.agg #[.map (some b0), .map m1], e.val] w fun x w' => x = .returned (.bool (!Bk.underC es 2 e)) ∧ Below w.heap.size w w' := by
  have CU := Lib.hid (fun w' (hu : Lex.Up w w') => under_any b0 m1 ms es 2 e w' (hM.up hu) hS)
  have U0 := Lib.hid (show Below w.heap.size w ((w.alloc (.cells #[.map (some b0), .map m1] 132)).alloc (.cells e.cells 39)) from ((Below.refl _ _).alloc (Nat.le_refl _) _).alloc (by simp) _)
  clear hM hS
  generalize Bk.underC es 2 e = q at *
  unfold Ev.cells at *
  unfold Ev.val at *
  go_enter Try.func91, Try.ntmps91
  go_wp2_with fail
  refine (CU.out _ U0.out).mono ?_
  rintro x w1 ⟨rfl, hb⟩
  have U1 := Lib.hid (U0.out.trans (hb.mono U0.out.size))
  clear hb
  go_wp2
  go_ret
  exact ⟨rfl, U1.out⟩

namespace Bk
/-- Whether a first Create that lives is below e. -/
def standC (c : Ck) (e : Ev) : Bool := Ck.has e.c 0 c.c0 || Ck.has e.c 1 c.c1 || Ck.has e.c 2 c.c2 || Ck.has e.c 3 c.c3 || Ck.has e.c 4 c.c4
theorem standC_yes {c : Ck} {e : Ev} {k : Nat} (hk : k < 5) (h : Ck.has e.c k (c.get k) = true) : standC c e = true := by
  unfold standC
  match k, hk with
  | 0, _ | 1, _ | 2, _ | 3, _ | 4, _ => simp [Ck.get] at h; simp [h]
theorem standC_no {c : Ck} {e : Ev} (h : ∀ k : Nat, k < 5 → Ck.has e.c k (c.get k) = false) : standC c e = false := by
  have h0 := h 0 (by omega); have h1 := h 1 (by omega); have h2 := h 2 (by omega); have h3 := h 3 (by omega); have h4 := h 4 (by omega)
  simp [Ck.get] at h0 h1 h2 h3 h4
  simp [standC, h0, h1, h2, h3, h4]
end Bk
def StdRel (c : Ck) (e : Ev) (s : Nat) (W : World) (v : Value) (wr : World) : Prop :=
  ∃ k : Nat, k ≤ 5 ∧ v = .int .i64 k ∧ Hid (∀ j : Nat, j < k → Ck.has e.c j (c.get j) = false) ∧ Hid (Blk wr (s + 1) e.cells 39) ∧ Hid (Below s W wr)
set_option maxHeartbeats 1600000 in
theorem stands_any (b1 : Nat) (m0 : Option Nat) (ms : List (ByteArray × Value)) (c : Ck) (e : Ev) (w : World) (hM : Gm strKey w b1 ms) (hc : (Gm.get ms e.key).getD Ck.zero.val = c.val) :
    Calls Try.prog 94 #[.agg #[.map m0, .map (some b1)], e.val] w fun x w' => x = .returned (.bool (Bk.standC c e)) ∧ Below w.heap.size w w' := by
  have CB := Lib.hid (fun (k : Nat) w => show Calls Try.prog 117 #[.agg #[.int .i64 k, .int .i64 (c.get k), .int .i64 0, .int .i64 0, .int .i64 0, .int .i64 0, .int .i64 0, .int .i64 0, .int .i64 0, .string ⟨#[]⟩, .int .i64 0, .string ⟨#[]⟩], e.val] w fun x w' => x = .returned (.bool (Ck.has e.c k (c.get k))) ∧ Below w.heap.size w w' from below_any ⟨k, c.get k, Ck.zero, 0, 0, ⟨#[]⟩, 0, ⟨#[]⟩⟩ e w)
  have K0 := Lib.hid (Blk.new (w.alloc (.cells #[.map m0, .map (some b1)] 132)) e.cells 39)
  have U0 := Lib.hid (show Below w.heap.size w ((w.alloc (.cells #[.map m0, .map (some b1)] 132)).alloc (.cells e.cells 39)) from ((Below.refl _ _).alloc (Nat.le_refl _) _).alloc (by simp) _)
  have S0 := Lib.hid ((Blk.new w #[.map m0, .map (some b1)] 132).alloc (.cells e.cells 39))
  have lk := (show (Instr.lookup 130 (.map (some b1)) (.string e.key) false).run Try.prog ((w.alloc (.cells #[.map m0, .map (some b1)] 132)).alloc (.cells e.cells 39)) = .ok c.val ((w.alloc (.cells #[.map m0, .map (some b1)] 132)).alloc (.cells e.cells 39)) from (by have := (Gm.look 130 24 Try.underlying130 (zero_clk _) (hM.up U0.out) e.key false); rw [hc] at this; exact this))
  have HX := Lib.hid (show ∀ j, j < 5 → ∀ w, (Instr.index 24 (.agg #[.int .i64 c.c0, .int .i64 c.c1, .int .i64 c.c2, .int .i64 c.c3, .int .i64 c.c4]) (.int .i64 (j : Nat))).run Try.prog w = .ok (.int .i64 (c.get j)) w from fun j hj w => by
    match j, hj with
    | 0, _ | 1, _ | 2, _ | 3, _ | 4, _ => go_simp; rfl)
  have HY := Lib.hid (fun (k : Nat) (hk : k < 5) h => Bk.standC_yes (c := c) (e := e) hk h)
  have HN := Lib.hid (fun h => Bk.standC_no (c := c) (e := e) h)
  clear hM hc
  obtain ⟨W, hW⟩ : ∃ W, W = (w.alloc (.cells #[.map m0, .map (some b1)] 132)).alloc (.cells e.cells 39) := ⟨_, rfl⟩
  rw [← hW] at K0 U0 lk S0
  simp only [World.size_alloc] at K0
  obtain ⟨a0, a1, a2, a3, a4, a5, a6, a7, a8, a9, a10, a11⟩ := K0.out.e12
  have s1 : W.cell? ⟨w.heap.size, 1, none⟩ = some (.map (some b1)) := S0.out.cell rfl
  generalize Bk.standC c e = q at *
  unfold Ev.cells at hW
  unfold Ev.val at *
  unfold Ck.val at *
  go_enter Try.func94, Try.ntmps94
  go_upto_region 1 with (fail)
  refine wp_named (fun W2 hW2 => ?_)
  obtain rfl : W2 = W := by rw [hW2, hW]
  clear hW hW2
  go_wp2
  clear lk a0 a1 a2 a3 a4 a5 a6 a7 a8 a9 a10 a11 s1 S0
  go_loopw [12] (fun v wr => StdRel c e w.heap.size w v wr) (fun v _ => 5 - (intOf v).toNat)
  case atStart => exact ⟨0, by omega, rfl, Lib.hid (fun j hj => absurd hj (by omega)), K0, U0⟩
  case round =>
    obtain ⟨k, hk, rfl, HA, KK, UU⟩ := hrel
    clear K0 U0
    by_cases h5 : k < 5
    · have h5' : (k : Int) < 5 := by omega
      have hx := HX.out k h5
      have HY2 := Lib.hid (HY.out k h5)
      have C1 := Lib.hid (CB.out k)
      have HN2 := Lib.hid (fun (h : Ck.has e.c k (c.get k) = false) => (show ∀ j : Nat, j < k + 1 → Ck.has e.c j (c.get j) = false from fun j hj => by
        rcases Nat.lt_succ_iff_lt_or_eq.1 hj with h1 | rfl
        · exact HA.out j h1
        · exact h))
      generalize Ck.has e.c k (c.get k) = z at HY2 C1 HN2
      generalize c.get k = y at hx C1
      obtain ⟨a0, a1, a2, a3, a4, a5, a6, a7, a8, a9, a10, a11⟩ := KK.out.e12
      clear HX CB HY HA
      go_wp2_with fail
      refine (C1.out _).mono ?_
      rintro x w1 ⟨rfl, hb⟩
      have U1 := Lib.hid (UU.out.trans (hb.mono UU.out.size))
      have K1 := Lib.hid (KK.out.up hb)
      clear hb a0 a1 a2 a3 a4 a5 a6 a7 a8 a9 a10 a11
      cases z
      · have HN3 := Lib.hid (HN2.out rfl)
        go_wp2
        go_roundw
        case rel => exact ⟨k + 1, by omega, by go_num, HN3, K1, U1⟩
        case measure => simp [intOf]; omega
      · obtain rfl := HY2.out rfl
        go_wp2
        go_ret
        exact ⟨rfl, U1.out⟩
    · obtain rfl : k = 5 := by omega
      obtain rfl := HN.out HA.out
      clear HX CB HY HN HA
      go_wp2
      go_ret
      exact ⟨rfl, UU.out⟩
end Go.Proofs.Ytolpfchnfhdhkaa
