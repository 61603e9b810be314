/-
  Merged: RfL, RfK.
-/
import Derived.Test.YthgfbnkggdlokaaRfE
import Derived.Test.YthgfbnkggdlokaaRfJ
/-
  What the reference's read reads back, plain.
-/
namespace Go.Proofs.Ythgfbnkggdlokaa
open Go.RowKit
set_option maxRecDepth 100000

/-- What is read, if these bytes are a frame's. -/
def RdBack (xs : List Nat) (f : Fr) : Prop := ∀ g, Fr.Good g → xs = Fr.body g → f = g
theorem body_ge {g : Fr} (G : Fr.Good g) : 3 ≤ (Fr.body g).length := (Fr.body_len G).1
theorem body_two {xs : List Nat} {g : Fr} (h : xs = Fr.body g) (G : Fr.Good g) : (Pl.nth xs 0 : Int) = g.k ∧ (Pl.nth xs 1 : Int) = g.r ∧ xs.drop 2 = Fr.pay g := by
  subst h
  exact ⟨Fr.good_k G, Fr.good_r G, rfl⟩

/-- The clock's first i numbers as they are read, and where the next lies. -/
def rdc (ys : List Nat) : Nat → Ck × Nat
  | 0 => (Ck.zero, 0)
  | i + 1 => ((rdc ys i).1.set i (((Pl.take (ys.drop (rdc ys i).2)).1 % 2097152 : Nat) : Int), (rdc ys i).2 + (Pl.take (ys.drop (rdc ys i).2)).2.1)
theorem rdc_le (ys : List Nat) : ∀ i, (rdc ys i).2 ≤ ys.length
  | 0 => Nat.zero_le _
  | i + 1 => by
    have h1 := rdc_le ys i
    have h2 := take_le (ys.drop (rdc ys i).2)
    rw [List.length_drop] at h2
    simp only [rdc]
    omega
theorem cks_more (c : Ck) (i : Nat) (h : i < 5) : ∃ zs, Fr.cks c 5 = Fr.cks c i ++ (Pl.put (c.get i).toNat ++ zs) := by
  match i, h with
  | 0, _ | 1, _ | 2, _ | 3, _ | 4, _ => simp only [Fr.cks, List.append_assoc, List.nil_append, List.append_cancel_left_eq, exists_eq'] <;> exact ⟨[], by simp⟩
theorem Ck.rd_set (c : Ck) (k j : Nat) (x : Int) (h : j < 5) : (c.set k x).get j = if j = k then x else c.get j := by
  match j, h with
  | 0, _ | 1, _ | 2, _ | 3, _ | 4, _ => simp [Ck.set, Ck.get, eq_comm]
theorem rdc_back {c : Ck} (hc : ∀ j, j < 5 → 0 ≤ c.get j ∧ c.get j ≤ 1048576) : ∀ i, i ≤ 5 → (rdc (Fr.cks c 5) i).2 = (Fr.cks c i).length ∧ ∀ j, j < 5 → (rdc (Fr.cks c 5) i).1.get j = if j < i then c.get j else 0
  | 0, _ => ⟨rfl, fun j hj => by
    match j, hj with
    | 0, _ | 1, _ | 2, _ | 3, _ | 4, _ => rfl⟩
  | i + 1, h => by
    obtain ⟨h1, h2⟩ := rdc_back hc i (by omega)
    obtain ⟨zs, hz⟩ := cks_more c i (by omega)
    obtain ⟨g0, g1⟩ := hc i (by omega)
    have ed : (Fr.cks c 5).drop (rdc (Fr.cks c 5) i).2 = Pl.put (c.get i).toNat ++ zs := by rw [h1, hz, List.drop_left]
    have et := Pl.take_put (n := (c.get i).toNat) (by omega) zs
    simp only [rdc, ed, et]
    refine ⟨by rw [h1, Fr.cks, List.length_append], fun j hj => ?_⟩
    rw [Ck.rd_set _ _ _ _ hj, h2 j hj]
    by_cases hji : j = i
    · subst hji; rw [if_pos rfl, if_pos (by omega)]; omega
    · rw [if_neg hji]; by_cases hl : j < i
      · rw [if_pos hl, if_pos (by omega)]
      · rw [if_neg hl, if_neg (by omega)]
theorem rdback_clock {xs : List Nat} {k0 r0 : Nat} (BT : ∀ g, Fr.Good g → xs = Fr.body g → (k0 : Int) = g.k ∧ (r0 : Int) = g.r ∧ xs.drop 2 = Fr.pay g) (hk : k0 = 3 ∨ k0 = 5) :
    RdBack xs ⟨k0, r0, 0, (rdc (xs.drop 2) 5).1, []⟩ := fun g G e => by
  obtain ⟨e1, e2, e3⟩ := BT g G e
  have k3 : g.k = 3 ∨ g.k = 5 := by omega
  obtain ⟨g0, g1, g2⟩ := G.ck k3
  have hp : xs.drop 2 = Fr.cks g.c 5 := by rw [e3, Fr.pay, if_neg (by omega), if_pos k3]
  have h := (rdc_back g1 5 (Nat.le_refl _)).2
  have ec : (rdc (xs.drop 2) 5).1 = g.c := Ck.ext_get fun j hj => by rw [hp, h j hj, if_pos hj]
  obtain ⟨gk, gr, gu, gc, ges⟩ := g
  simp only at *
  subst g0 g2
  rw [ec, e1, e2]

/-- The events read so far, and the bytes they took. -/
def EvBack (xs : List Nat) (es : List Ev) (p : Nat) : Prop :=
  ∀ g, Fr.Good g → xs = Fr.body g → (g.k = 1 ∨ g.k = 4) → es.length ≤ g.es.length ∧ es = g.es.take es.length ∧ p = (Fr.evs es).length
theorem evback_nil (xs : List Nat) : EvBack xs [] 0 := fun g _ _ _ => ⟨Nat.zero_le _, by simp, rfl⟩
theorem evs_app (us bs : List Ev) : Fr.evs (us ++ bs) = Fr.evs us ++ Fr.evs bs := by
  induction us with
  | nil => rfl
  | cons a us ih => simp only [List.cons_append, Fr.evs, ih, List.append_assoc]
theorem pay_ev {g : Fr} (h : g.k = 1 ∨ g.k = 4) : Fr.body g = [g.k.toNat, g.r.toNat, g.es.length] ++ Fr.evs g.es := by
  unfold Fr.body Fr.pay
  rw [if_neg (by omega), if_neg (by omega)]
  rfl
theorem evback_step {xs : List Nat} {es : List Ev} {e : Ev} {p k z : Nat} (h : EvBack xs es p) (hr : RtRel (xs.drop (3 + p)) e k z) (hl : es.length < Pl.nth xs 2) : EvBack xs (es ++ [e]) (p + k) := fun g G e0 hk => by
  obtain ⟨h1, h2, h3⟩ := h g G e0 hk
  have hp := pay_ev hk
  rw [← e0] at hp
  have h4 : Pl.nth xs 2 = g.es.length := by rw [hp]; rfl
  rw [h4] at hl
  obtain ⟨_, _, _, hg⟩ := G.ev hk
  have hs : g.es = es ++ (g.es[es.length] :: g.es.drop (es.length + 1)) := by
    conv => lhs; rw [← List.take_append_drop es.length g.es, ← h2, List.drop_eq_getElem_cons hl]
  have hd : xs.drop (3 + p) = Ev.bytes g.es[es.length] ++ Fr.evs (g.es.drop (es.length + 1)) := by
    rw [hp, h3, ← List.drop_drop]
    conv => lhs; rw [hs]
    rw [show ([g.k.toNat, g.r.toNat, (es ++ (g.es[es.length] :: g.es.drop (es.length + 1))).length] ++ Fr.evs (es ++ (g.es[es.length] :: g.es.drop (es.length + 1)))).drop 3 = Fr.evs (es ++ (g.es[es.length] :: g.es.drop (es.length + 1))) from rfl, evs_app, List.drop_left, Fr.evs]
  obtain ⟨r1, r2, _⟩ := rt_put (hg _ (List.getElem_mem hl)) hd hr
  subst r1
  refine ⟨by rw [List.length_append]; simp; omega, ?_, ?_⟩
  · rw [List.length_append, show [g.es[es.length]].length = 1 from rfl, List.take_add_one]
    rw [← h2]
    simp [hl]
  · rw [evs_app, List.length_append, ← h3, r2]
    simp [Fr.evs]
theorem rdback_evs {xs : List Nat} {k0 r0 p : Nat} {es : List Ev} (BT : ∀ g, Fr.Good g → xs = Fr.body g → (k0 : Int) = g.k ∧ (r0 : Int) = g.r ∧ xs.drop 2 = Fr.pay g) (hk : k0 = 1 ∨ k0 = 4)
    (h : EvBack xs es p) (hl : xs.length ≤ 2 ∨ Pl.nth xs 2 ≤ es.length ∨ 20 < es.length) : RdBack xs ⟨k0, r0, 0, Ck.zero, es⟩ := fun g G e => by
  obtain ⟨e1, e2, e3⟩ := BT g G e
  have k1 : g.k = 1 ∨ g.k = 4 := by omega
  obtain ⟨h1, h2, _⟩ := h g G e k1
  obtain ⟨g0, g1, g2, g3⟩ := G.ev k1
  have hp := pay_ev k1
  rw [← e] at hp
  have h4 : Pl.nth xs 2 = g.es.length := by rw [hp]; rfl
  have h5 : 3 ≤ xs.length := by rw [e]; exact body_ge G
  have h6 : es.length = g.es.length := by omega
  rw [h6, List.take_length] at h2
  obtain ⟨gk, gr, gu, gc, ges⟩ := g
  simp only at *
  subst g0 g1 h2
  rw [e1, e2]
theorem rdback_none {xs : List Nat} {k0 r0 : Nat} (BT : ∀ g, Fr.Good g → xs = Fr.body g → (k0 : Int) = g.k ∧ (r0 : Int) = g.r ∧ xs.drop 2 = Fr.pay g) (h : ¬ (k0 = 1 ∨ k0 = 2 ∨ k0 = 3 ∨ k0 = 4 ∨ k0 = 5)) (f : Fr) : RdBack xs f := fun g G e => by
  obtain ⟨e1, _, _⟩ := BT g G e
  have := G.k
  omega
end Go.Proofs.Ythgfbnkggdlokaa

/-
  The reference of frames: its walk of read: what was put is read back.
-/
namespace Go.Proofs.Ythgfbnkggdlokaa
open Go.RowKit
set_option maxRecDepth 100000

def RdPost7 (w : World) (xs : List Nat) (x : Ending) (w' : World) : Prop :=
  ∃ (f : Fr) (A : Option Addr) (cap : Nat), x = .returned (f.val (.slice A f.es.length cap)) ∧ OwnE w' w.heap.size (.slice A f.es.length cap) f.es ∧ Below w.heap.size w w' ∧ RdBack xs f ∧ f.es.length ≤ 30
theorem slc_end {w : World} {b off : Nat} {xs : List Nat} {u : Nat} (h : xs.length = u) : Slc w (some ⟨b, off, none⟩) 0 0 (xs.drop u) := by
  rw [List.drop_of_length_le (by omega)]
  exact ⟨rfl, Nat.le_refl _, by decide, fun j => by simp [Pl.nth], fun h => by omega⟩
theorem slc_rest {w : World} {b off n cap : Nat} {xs : List Nat} (h : Slc w (some ⟨b, off, none⟩) n cap xs) {u : Nat} (hu : u ≤ n) (hc : ¬ cap = u) : Slc w (some ⟨b, off + u, none⟩) (n - u) (cap - u) (xs.drop u) := by
  have := h.dropA hu
  rw [if_neg hc] at this
  have hadd : (⟨b, off, none⟩ : Addr).add u = ⟨b, off + u, none⟩ := by unfold Addr.add; split <;> simp_all
  simpa [hadd] using this


/-- So far the clock's numbers were read. -/
def RdCk (b3 : Nat) (w : World) (ys : List Nat) (k r : Int) (v4 v8 : Value) (wr : World) : Prop :=
  ∃ i q : Nat, i ≤ 5 ∧ v8 = .int .i64 i ∧ v4 = .int .i64 q ∧ Hid (2 + (rdc ys i).2 = q) ∧ Hid (Blk wr b3 (Fr.cells ⟨k, r, 0, (rdc ys i).1, []⟩ (.slice none 0 0)) 26) ∧ Hid (Blk wr w.heap.size (Fr.zero.cells (.slice none 0 0)) 26) ∧ Hid (Below w.heap.size w wr)
theorem rd_set {c : Ck} {k r : Int} {i : Nat} (h : i < 5) (x : Int) : (Fr.cells ⟨k, r, 0, c, []⟩ (.slice none 0 0)).setIfInBounds (3 + i) (.int .i64 x) = Fr.cells ⟨k, r, 0, c.set i x, []⟩ (.slice none 0 0) := by
  match i, h with
  | 0, _ | 1, _ | 2, _ | 3, _ | 4, _ => rfl
theorem rem_21 (p : Nat) : ∃ u : Nat, u = p % 2097152 ∧ ((p : Int).tmod 2097152) = u ∧ IntKind.u64.wrap (u : Int) = u ∧ IntKind.i64.wrap (u : Int) = u :=
  ⟨_, rfl, by rw [Int.tmod_eq_emod_of_nonneg (by omega)]; omega, by rw [IntKind.wrap_u64]; omega, by rw [IntKind.wrap_i64]; omega⟩


/-- So far the events were read. -/
def RdEv (b3 n : Nat) (w : World) (xs : List Nat) (k r : Int) (v4 v12 : Value) (wr : World) : Prop :=
  ∃ (i q : Nat) (es : List Ev) (v : Value), i ≤ 21 ∧ es.length = i ∧ v12 = .int .i64 i ∧ v4 = .int .i64 q ∧ Hid (2 < n → q ≤ n) ∧ Hid (∃ p, q = 3 + p ∧ EvBack xs es p) ∧ Hid (Blk wr b3 (Fr.cells ⟨k, r, 0, Ck.zero, es⟩ v) 26) ∧ Hid (OwnE wr (w.heap.size + 2) v es) ∧ Hid (Blk wr w.heap.size (Fr.zero.cells (.slice none 0 0)) 26) ∧ Hid (Below w.heap.size w wr)


set_option maxHeartbeats 8000000 in
theorem read_any (A : Option Addr) (n cap : Nat) (xs : List Nat) (w : World) (h : Slc w A n cap xs) :
    Calls Try.prog 50 #[.slice A n cap] w (RdPost7 w xs) := by
  have CT := Lib.hid (fun A n cap ys w h => rtake_any A n cap ys w h)
  have CE := Lib.hid (fun A n cap ys w h => rtake6_any A n cap ys w h)
  have SL := Lib.hid (fun w' (hu : Below w.heap.size w w') => h.below hu)
  have hl := h.1
  have hc := h.2.1
  have hm := h.2.2.1
  have HB := Lib.hid (show ∀ w', Below w.heap.size w w' → 0 < n → ∃ b off, A = some ⟨b, off, none⟩ ∧ ∀ j, j < n → w'.cell? ⟨b, off + j, none⟩ = some (.int .u8 (Pl.nth xs j : Nat)) from fun w' hb h0 => by
    obtain ⟨b, off, e, _, hcl⟩ := (h.below hb).2.2.2.2 h0
    exact ⟨b, off, e, hcl⟩)
  have H256 := Lib.hid h.2.2.2.1
  clear h
  have KR := Lib.hid (Blk.new w (Fr.zero.cells (.slice none 0 0)) 26)
  have U0 := Lib.hid (show Below w.heap.size w (w.alloc (.cells (Fr.zero.cells (.slice none 0 0)) 26)) from (Below.refl _ _).alloc (Nat.le_refl _) _)
  unfold RdPost7
  unfold Ev.val at CE
  go_enter Try.func50, Try.ntmps50
  go_upto_region 1 with (fail)
  refine wp_named (fun W hW => ?_)
  have hb3' : W.heap.size < w.heap.size + 2 := by rw [show W = w.alloc (.cells (Fr.zero.cells (.slice none 0 0)) 26) from hW]; simp
  rw [← show W = w.alloc (.cells (Fr.zero.cells (.slice none 0 0)) 26) from hW] at KR U0
  clear hW
  by_cases h2 : n < 2
  · have h2' : (n : Int) < 2 := by omega
    have BK := Lib.hid (show RdBack xs Fr.zero from fun g G e => by have := body_ge G; rw [← e] at this; omega)
    obtain ⟨j0, j1, j2, j3, j4, j5, j6, j7, j8⟩ := KR.out.fr
    have fr := KR.out.frozen
    have f0 := fr 0; have f1 := fr 1; have f2 := fr 2; have f3 := fr 3; have f4 := fr 4; have f5 := fr 5; have f6 := fr 6; have f7 := fr 7; have f8 := fr 8
    clear fr
    go_wp2
    change bodyPost _ _ _ _ _ (put9 W w.heap.size Fr.zero (.slice none 0 0))
    have K := put9_blk KR.out Fr.zero (.slice none 0 0)
    have BB := put9_below U0.out (Nat.le_refl _) Fr.zero (.slice none 0 0)
    generalize put9 W w.heap.size Fr.zero (.slice none 0 0) = W5 at *
    obtain ⟨k0', k1', k2', k3', k4', k5', k6', k7', k8'⟩ := K.fr
    exact bodyPost_ret (v := Fr.val Fr.zero (.slice none 0 0)) (by simp [results, Try.results50, go_sem, Fr.val, k0', k1', k2', k3', k4', k5', k6', k7', k8']) rfl ⟨Fr.zero, none, 0, rfl, OwnE.nil _ _, BB, BK.out, by simp [Fr.zero]⟩
  have h2' : ¬ (n : Int) < 2 := by omega
  obtain ⟨b, off, rfl, hcl⟩ := HB.out W U0.out (by omega)
  have c0 := hcl 0 (by omega)
  have c1 := hcl 1 (by omega)
  rw [Nat.add_zero] at c0
  have ltb : b < W.heap.size := by
    obtain ⟨b', off', e, hb, _⟩ := (SL.out W U0.out).2.2.2.2 (by omega)
    obtain ⟨rfl, rfl⟩ : b = b' ∧ off = off' := by simpa using e
    exact hb
  have n0 := H256.out 0
  have n1 := H256.out 1
  have BT := Lib.hid (fun g (G : Fr.Good g) (e : xs = Fr.body g) => body_two e G)
  generalize hk0 : Pl.nth xs 0 = k0 at *
  generalize hr0 : Pl.nth xs 1 = r0 at *
  have hn0 : (0 : Int) < n := by omega
  have hn1 : (1 : Int) < n := by omega
  have wk0 : IntKind.i64.wrap (k0 : Int) = k0 := by rw [IntKind.wrap_i64]; omega
  have wr0 : IntKind.i64.wrap (r0 : Int) = r0 := by rw [IntKind.wrap_i64]; omega
  go_upto_region 3 with (fail)
  go_region
  obtain ⟨W4, hW4⟩ : ∃ W4, W4 = (W.alloc (.cells (Fr.cells ⟨k0, r0, 0, Ck.zero, []⟩ (.slice none 0 0)) 26)).drew := ⟨_, rfl⟩
  have KF4 := Lib.hid (show Blk W4 W.heap.size (Fr.cells ⟨k0, r0, 0, Ck.zero, []⟩ (.slice none 0 0)) 26 by rw [hW4]; exact Blk.new W _ _)
  have KR4 := Lib.hid (show Blk W4 w.heap.size (Fr.zero.cells (.slice none 0 0)) 26 by rw [hW4]; exact KR.out.alloc _)
  have U4 := Lib.hid (show Below w.heap.size w W4 by rw [hW4]; exact (U0.out.alloc U0.out.size _).drew)
  have e4 : (W.alloc (.cells #[.int .i64 k0, .int .i64 r0, .int .i64 0, .int .i64 0, .int .i64 0, .int .i64 0, .int .i64 0, .int .i64 0, .slice none 0 0] 26)).drew = W4 := hW4.symm
  rw [e4]
  have hb3 : w.heap.size < W.heap.size := KR.out.lt
  clear hW4 e4 KR U0 c0 c1 hcl ltb hk0 hr0 wk0 wr0
  generalize W.heap.size = b3 at *
  obtain ⟨a0, a1, a2, a3, a4, a5, a6, a7, a8⟩ := KF4.out.fr
  simp only at a0 a1 a2 a3 a4 a5 a6 a7 a8
  by_cases hk2 : k0 = 2
  · subst hk2
    have f2 := KF4.out.frozen 2
    go_upto_region 7 with (fail)
    go_cut [5] (fun v5 wx => v5 = .int .u64 ((Pl.take (xs.drop 2)).1 : Nat) ∧ Hid (Lex.Up W4 wx))
    case first =>
      by_cases hcu : cap = 2
      · have hn2 : n = 2 := by omega
        subst hcu hn2
        have SD := Lib.hid (show Slc W4 (some ⟨b, off, none⟩) 0 0 (xs.drop 2) from slc_end hl)
        go_wp2_with fail
        refine (CT.out _ _ _ (xs.drop 2) _ SD.out).mono ?_
        rintro x w5 ⟨rfl, hb⟩
        go_wp2_with fail
        go_meet
        exact ⟨rfl, Lib.hid hb⟩
      · have SD := Lib.hid (slc_rest (SL.out W4 U4.out) (u := 2) (by omega) hcu)
        have hi1 : (2 : Int) ≤ n := by omega
        go_wp2_with fail
        refine (CT.out _ _ _ (xs.drop 2) _ SD.out).mono ?_
        rintro x w5 ⟨rfl, hb⟩
        go_wp2_with fail
        go_meet
        exact ⟨rfl, Lib.hid hb⟩
    case rest =>
      obtain ⟨rfl, UC⟩ := hcut
      have KFc := Lib.hid (KF4.out.up UC.out)
      have KRc := Lib.hid (KR4.out.up UC.out)
      have Uc := Lib.hid (U4.out.trans (Below.mono UC.out U4.out.size))
      clear UC a0 a1 a2 a3 a4 a5 a6 a7 a8 f2 KF4 KR4 U4
      have f2 := KFc.out.frozen 2
      have a2 := KFc.out.fr.2.2.1
      simp only at a2
      have lt3 := KFc.out.lt
      have hu : ∃ u : Nat, u = (Pl.take (xs.drop 2)).1 % 2097152 ∧ (((Pl.take (xs.drop 2)).1 : Int).tmod 2097152) = u := ⟨_, rfl, by rw [Int.tmod_eq_emod_of_nonneg (by omega)]; omega⟩
      obtain ⟨u, hu, hm⟩ := hu
      have wu1 : IntKind.u64.wrap (u : Int) = u := by rw [IntKind.wrap_u64]; omega
      have wu2 : IntKind.i64.wrap (u : Int) = u := by rw [IntKind.wrap_i64]; omega
      have BK := Lib.hid (show RdBack xs ⟨2, r0, u, Ck.zero, []⟩ from fun g G e => by
        obtain ⟨e1, e2, e3⟩ := BT.out g G e
        have k2 : g.k = 2 := by omega
        obtain ⟨g0, g1, g2, g3⟩ := G.up k2
        have ep : xs.drop 2 = Pl.put g.u.toNat := by rw [e3, Fr.pay, if_pos k2]
        have et := Pl.take_put (n := g.u.toNat) (by omega) []
        rw [List.append_nil, ← ep] at et
        rw [et] at hu
        obtain ⟨gk, gr, gu, gc, ges⟩ := g
        simp only at *
        subst g2 g3
        have : (u : Int) = gu := by omega
        rw [this, e2, ← e1]
        rfl)
      clear hu
      generalize hv : (Pl.take (xs.drop 2)).1 = pv at *
      go_upto_region 26 with (fail)
      refine wp_named (fun W5 hW => ?_)
      have KF5 := Lib.hid (show Blk W5 b3 (Fr.cells ⟨2, r0, u, Ck.zero, []⟩ (.slice none 0 0)) 26 by rw [show W5 = wc.setCell ⟨b3, 2, none⟩ (.int .i64 u) from hW]; exact KFc.out.set 2 (.int .i64 (u : Int)))
      have KR5 := Lib.hid (show Blk W5 w.heap.size (Fr.zero.cells (.slice none 0 0)) 26 by rw [show W5 = wc.setCell ⟨b3, 2, none⟩ (.int .i64 u) from hW]; exact KRc.out.other (by simp only; omega) _)
      have U5 := Lib.hid (show Below w.heap.size w W5 by rw [show W5 = wc.setCell ⟨b3, 2, none⟩ (.int .i64 u) from hW]; exact Uc.out.setCell (by simp only; omega) _)
      have O5 := Lib.hid (OwnE.nil W5 (w.heap.size + 2))
      clear hW KFc KRc Uc f2 a2 lt3 hm wu1 wu2 hv
      obtain ⟨a0, a1, a2, a3, a4, a5, a6, a7, a8⟩ := KF5.out.fr
      obtain ⟨j0, j1, j2, j3, j4, j5, j6, j7, j8⟩ := KR5.out.fr
      have fr := KR5.out.frozen
      have f0 := fr 0; have f1 := fr 1; have f2 := fr 2; have f3 := fr 3; have f4 := fr 4; have f5 := fr 5; have f6 := fr 6; have f7 := fr 7; have f8 := fr 8
      clear fr
      go_wp2
      change bodyPost _ _ _ _ _ (put9 W5 w.heap.size (⟨2, r0, u, Ck.zero, []⟩ : Fr) (.slice none 0 0))
      have K := put9_blk KR5.out (⟨2, r0, u, Ck.zero, []⟩ : Fr) (.slice none 0 0)
      have BB := put9_below U5.out (Nat.le_refl _) (⟨2, r0, u, Ck.zero, []⟩ : Fr) (.slice none 0 0)
      have OE := OwnE.by_ O5.out (put9_by W5 w.heap.size (⟨2, r0, u, Ck.zero, []⟩ : Fr) (.slice none 0 0)) (Nat.lt_succ_of_lt (Nat.lt_succ_self _))
      generalize put9 W5 w.heap.size (⟨2, r0, u, Ck.zero, []⟩ : Fr) (.slice none 0 0) = W5 at *
      obtain ⟨k0', k1', k2', k3', k4', k5', k6', k7', k8'⟩ := K.fr
      exact bodyPost_ret (v := Fr.val (⟨2, r0, u, Ck.zero, []⟩ : Fr) (.slice none 0 0)) (by simp [results, Try.results50, go_sem, Fr.val, k0', k1', k2', k3', k4', k5', k6', k7', k8']) rfl ⟨(⟨2, r0, u, Ck.zero, []⟩ : Fr), _, _, rfl, OE.mono (Nat.le_add_right _ _), BB, BK.out, (by simp)⟩
  have d2 : ((k0 : Int) == 2) = false := by simp; omega
  by_cases hk35 : k0 = 3 ∨ k0 = 5
  · clear hk2
    by_cases hk3 : k0 = 3
    · have d3 : ((k0 : Int) == 3) = true := by simp; omega
      clear hk3
      have BK := Lib.hid (rdback_clock BT.out hk35)
      have HR := Lib.hid (fun i => by have := rdc_le (xs.drop 2) i; rw [List.length_drop, hl] at this; exact this)
      have HS := Lib.hid (fun i => show rdc (xs.drop 2) (i + 1) = ((rdc (xs.drop 2) i).1.set i (((Pl.take (xs.drop (2 + (rdc (xs.drop 2) i).2))).1 % 2097152 : Nat) : Int), (rdc (xs.drop 2) i).2 + (Pl.take (xs.drop (2 + (rdc (xs.drop 2) i).2))).2.1) by rw [← List.drop_drop]; rfl)
      clear hk35 BT H256 HB
      go_wp2
      clear a0 a1 a2 a3 a4 a5 a6 a7 a8
      go_loopw [4, 8] (fun v4 v8 wr => RdCk b3 w (xs.drop 2) k0 r0 v4 v8 wr) (fun _ v8 _ => 5 - (intOf v8).toNat)
      case atStart => exact ⟨0, 2, by omega, rfl, rfl, Lib.hid rfl, KF4, KR4, U4⟩
      case round =>
        obtain ⟨i, q, hi, rfl, rfl, HP, KF, KR, UU⟩ := hrel
        clear KF4 KR4 U4
        by_cases h5 : i < 5
        · have h5' : (i : Int) < 5 := by omega
          have hq0 := HP.out
          have hq : q ≤ n := by have := HR.out i; omega
          have HI := HS.out i
          have HR1 := HR.out (i + 1)
          rw [hq0] at HI
          rw [HI] at HR1
          have HT := Lib.hid HI
          have HU := Lib.hid (show q + (Pl.take (xs.drop q)).2.1 ≤ n by simp only at HR1; omega)
          clear HI HR1 hq0
          go_upto_region 14 with (fail)
          go_cut [9, 10] (fun v9 v10 wx => v9 = .int .u64 ((Pl.take (xs.drop q)).1 : Nat) ∧ v10 = .int .i64 ((Pl.take (xs.drop q)).2.1 : Nat) ∧ Hid (Lex.Up wr wx))
          case first =>
            by_cases hcu : cap = q
            · have hn2 : n = q := by omega
              subst hcu hn2
              have SD := Lib.hid (show Slc wr (some ⟨b, off, none⟩) 0 0 (xs.drop n) from slc_end hl)
              go_wp2_with fail
              refine (CT.out _ _ _ (xs.drop n) _ SD.out).mono ?_
              rintro x w5 ⟨rfl, hb⟩
              go_wp2_with fail
              go_meet
              exact ⟨rfl, rfl, Lib.hid hb⟩
            · have SD := Lib.hid (slc_rest (SL.out wr UU.out) (u := q) hq hcu)
              have hi1 : (q : Int) ≤ n := by omega
              go_wp2_with fail
              refine (CT.out _ _ _ (xs.drop q) _ SD.out).mono ?_
              rintro x w5 ⟨rfl, hb⟩
              go_wp2_with fail
              go_meet
              exact ⟨rfl, rfl, Lib.hid hb⟩
          case rest =>
            obtain ⟨rfl, rfl, UC⟩ := hcut
            have KFc := Lib.hid (KF.out.up UC.out)
            have KRc := Lib.hid (KR.out.up UC.out)
            have Uc := Lib.hid (UU.out.trans (Below.mono UC.out UU.out.size))
            clear UC KF KR UU CT
            have fx := KFc.out.frozen (3 + i)
            have ax := KFc.out.frClk h5
            simp only at ax
            have lt3 := KFc.out.lt
            obtain ⟨u, hu, hm', wu1, wu2⟩ := rem_21 (Pl.take (xs.drop q)).1
            rw [← hu] at HT
            have hku := HU.out
            clear hu
            generalize hv : (Pl.take (xs.drop q)).1 = pv at *
            generalize hpk : (Pl.take (xs.drop q)).2.1 = pk at *
            have wq : IntKind.i64.wrap ((q : Int) + pk) = (q + pk : Nat) := by rw [IntKind.wrap_i64]; omega
            go_wp2
            go_roundw
            case rel =>
              refine ⟨i + 1, q + pk, by omega, by go_num, by simp, Lib.hid ?_, Lib.hid ?_, Lib.hid (KRc.out.other (by simp only; omega) _), Lib.hid (Uc.out.setCell (by simp only; omega) _)⟩
              · rw [HT.out]; have := HP.out; simp only; omega
              · rw [HT.out]; have h1 := KFc.out.set (3 + i) (.int .i64 (u : Int)); rw [rd_set h5] at h1; exact h1
            case measure => simp [intOf]; omega
        · obtain rfl : i = 5 := by omega
          clear hi h5 HS HR
          go_upto_region 26 with (fail)
          have O5 := Lib.hid (OwnE.nil wr (w.heap.size + 2))
          obtain ⟨a0, a1, a2, a3, a4, a5, a6, a7, a8⟩ := KF.out.fr
          obtain ⟨j0, j1, j2, j3, j4, j5, j6, j7, j8⟩ := KR.out.fr
          have fr := KR.out.frozen
          have f0 := fr 0; have f1 := fr 1; have f2 := fr 2; have f3 := fr 3; have f4 := fr 4; have f5 := fr 5; have f6 := fr 6; have f7 := fr 7; have f8 := fr 8
          clear fr
          go_wp2
          change bodyPost _ _ _ _ _ (put9 wr w.heap.size (⟨k0, r0, 0, (rdc (xs.drop 2) 5).1, []⟩ : Fr) (.slice none 0 0))
          have K := put9_blk KR.out (⟨k0, r0, 0, (rdc (xs.drop 2) 5).1, []⟩ : Fr) (.slice none 0 0)
          have BB := put9_below UU.out (Nat.le_refl _) (⟨k0, r0, 0, (rdc (xs.drop 2) 5).1, []⟩ : Fr) (.slice none 0 0)
          have OE := OwnE.by_ O5.out (put9_by wr w.heap.size (⟨k0, r0, 0, (rdc (xs.drop 2) 5).1, []⟩ : Fr) (.slice none 0 0)) (Nat.lt_succ_of_lt (Nat.lt_succ_self _))
          generalize put9 wr w.heap.size (⟨k0, r0, 0, (rdc (xs.drop 2) 5).1, []⟩ : Fr) (.slice none 0 0) = W5 at *
          obtain ⟨k0', k1', k2', k3', k4', k5', k6', k7', k8'⟩ := K.fr
          exact bodyPost_ret (v := Fr.val (⟨k0, r0, 0, (rdc (xs.drop 2) 5).1, []⟩ : Fr) (.slice none 0 0)) (by simp [results, Try.results50, go_sem, Fr.val, k0', k1', k2', k3', k4', k5', k6', k7', k8']) rfl ⟨(⟨k0, r0, 0, (rdc (xs.drop 2) 5).1, []⟩ : Fr), _, _, rfl, OE.mono (Nat.le_add_right _ _), BB, BK.out, (by simp)⟩
    · have d3 : ((k0 : Int) == 3) = false := by simp; omega
      have d5 : ((k0 : Int) == 5) = true := by simp; omega
      clear hk3
      have BK := Lib.hid (rdback_clock BT.out hk35)
      have HR := Lib.hid (fun i => by have := rdc_le (xs.drop 2) i; rw [List.length_drop, hl] at this; exact this)
      have HS := Lib.hid (fun i => show rdc (xs.drop 2) (i + 1) = ((rdc (xs.drop 2) i).1.set i (((Pl.take (xs.drop (2 + (rdc (xs.drop 2) i).2))).1 % 2097152 : Nat) : Int), (rdc (xs.drop 2) i).2 + (Pl.take (xs.drop (2 + (rdc (xs.drop 2) i).2))).2.1) by rw [← List.drop_drop]; rfl)
      clear hk35 BT H256 HB
      go_wp2
      clear a0 a1 a2 a3 a4 a5 a6 a7 a8
      go_loopw [4, 8] (fun v4 v8 wr => RdCk b3 w (xs.drop 2) k0 r0 v4 v8 wr) (fun _ v8 _ => 5 - (intOf v8).toNat)
      case atStart => exact ⟨0, 2, by omega, rfl, rfl, Lib.hid rfl, KF4, KR4, U4⟩
      case round =>
        obtain ⟨i, q, hi, rfl, rfl, HP, KF, KR, UU⟩ := hrel
        clear KF4 KR4 U4
        by_cases h5 : i < 5
        · have h5' : (i : Int) < 5 := by omega
          have hq0 := HP.out
          have hq : q ≤ n := by have := HR.out i; omega
          have HI := HS.out i
          have HR1 := HR.out (i + 1)
          rw [hq0] at HI
          rw [HI] at HR1
          have HT := Lib.hid HI
          have HU := Lib.hid (show q + (Pl.take (xs.drop q)).2.1 ≤ n by simp only at HR1; omega)
          clear HI HR1 hq0
          go_upto_region 14 with (fail)
          go_cut [9, 10] (fun v9 v10 wx => v9 = .int .u64 ((Pl.take (xs.drop q)).1 : Nat) ∧ v10 = .int .i64 ((Pl.take (xs.drop q)).2.1 : Nat) ∧ Hid (Lex.Up wr wx))
          case first =>
            by_cases hcu : cap = q
            · have hn2 : n = q := by omega
              subst hcu hn2
              have SD := Lib.hid (show Slc wr (some ⟨b, off, none⟩) 0 0 (xs.drop n) from slc_end hl)
              go_wp2_with fail
              refine (CT.out _ _ _ (xs.drop n) _ SD.out).mono ?_
              rintro x w5 ⟨rfl, hb⟩
              go_wp2_with fail
              go_meet
              exact ⟨rfl, rfl, Lib.hid hb⟩
            · have SD := Lib.hid (slc_rest (SL.out wr UU.out) (u := q) hq hcu)
              have hi1 : (q : Int) ≤ n := by omega
              go_wp2_with fail
              refine (CT.out _ _ _ (xs.drop q) _ SD.out).mono ?_
              rintro x w5 ⟨rfl, hb⟩
              go_wp2_with fail
              go_meet
              exact ⟨rfl, rfl, Lib.hid hb⟩
          case rest =>
            obtain ⟨rfl, rfl, UC⟩ := hcut
            have KFc := Lib.hid (KF.out.up UC.out)
            have KRc := Lib.hid (KR.out.up UC.out)
            have Uc := Lib.hid (UU.out.trans (Below.mono UC.out UU.out.size))
            clear UC KF KR UU CT
            have fx := KFc.out.frozen (3 + i)
            have ax := KFc.out.frClk h5
            simp only at ax
            have lt3 := KFc.out.lt
            obtain ⟨u, hu, hm', wu1, wu2⟩ := rem_21 (Pl.take (xs.drop q)).1
            rw [← hu] at HT
            have hku := HU.out
            clear hu
            generalize hv : (Pl.take (xs.drop q)).1 = pv at *
            generalize hpk : (Pl.take (xs.drop q)).2.1 = pk at *
            have wq : IntKind.i64.wrap ((q : Int) + pk) = (q + pk : Nat) := by rw [IntKind.wrap_i64]; omega
            go_wp2
            go_roundw
            case rel =>
              refine ⟨i + 1, q + pk, by omega, by go_num, by simp, Lib.hid ?_, Lib.hid ?_, Lib.hid (KRc.out.other (by simp only; omega) _), Lib.hid (Uc.out.setCell (by simp only; omega) _)⟩
              · rw [HT.out]; have := HP.out; simp only; omega
              · rw [HT.out]; have h1 := KFc.out.set (3 + i) (.int .i64 (u : Int)); rw [rd_set h5] at h1; exact h1
            case measure => simp [intOf]; omega
        · obtain rfl : i = 5 := by omega
          clear hi h5 HS HR
          go_upto_region 26 with (fail)
          have O5 := Lib.hid (OwnE.nil wr (w.heap.size + 2))
          obtain ⟨a0, a1, a2, a3, a4, a5, a6, a7, a8⟩ := KF.out.fr
          obtain ⟨j0, j1, j2, j3, j4, j5, j6, j7, j8⟩ := KR.out.fr
          have fr := KR.out.frozen
          have f0 := fr 0; have f1 := fr 1; have f2 := fr 2; have f3 := fr 3; have f4 := fr 4; have f5 := fr 5; have f6 := fr 6; have f7 := fr 7; have f8 := fr 8
          clear fr
          go_wp2
          change bodyPost _ _ _ _ _ (put9 wr w.heap.size (⟨k0, r0, 0, (rdc (xs.drop 2) 5).1, []⟩ : Fr) (.slice none 0 0))
          have K := put9_blk KR.out (⟨k0, r0, 0, (rdc (xs.drop 2) 5).1, []⟩ : Fr) (.slice none 0 0)
          have BB := put9_below UU.out (Nat.le_refl _) (⟨k0, r0, 0, (rdc (xs.drop 2) 5).1, []⟩ : Fr) (.slice none 0 0)
          have OE := OwnE.by_ O5.out (put9_by wr w.heap.size (⟨k0, r0, 0, (rdc (xs.drop 2) 5).1, []⟩ : Fr) (.slice none 0 0)) (Nat.lt_succ_of_lt (Nat.lt_succ_self _))
          generalize put9 wr w.heap.size (⟨k0, r0, 0, (rdc (xs.drop 2) 5).1, []⟩ : Fr) (.slice none 0 0) = W5 at *
          obtain ⟨k0', k1', k2', k3', k4', k5', k6', k7', k8'⟩ := K.fr
          exact bodyPost_ret (v := Fr.val (⟨k0, r0, 0, (rdc (xs.drop 2) 5).1, []⟩ : Fr) (.slice none 0 0)) (by simp [results, Try.results50, go_sem, Fr.val, k0', k1', k2', k3', k4', k5', k6', k7', k8']) rfl ⟨(⟨k0, r0, 0, (rdc (xs.drop 2) 5).1, []⟩ : Fr), _, _, rfl, OE.mono (Nat.le_add_right _ _), BB, BK.out, (by simp)⟩
  have d3 : ((k0 : Int) == 3) = false := by simp; omega
  have d5 : ((k0 : Int) == 5) = false := by simp; omega
  by_cases hk14 : k0 = 1 ∨ k0 = 4
  · clear hk2 hk35
    have HB2 := Lib.hid (show ∀ w', Below w.heap.size w w' → 2 < n → w'.cell? ⟨b, off + 2, none⟩ = some (.int .u8 (Pl.nth xs 2 : Nat)) from fun w' hb h => by
      obtain ⟨b', off', e, hcl⟩ := HB.out w' hb (by omega)
      obtain ⟨rfl, rfl⟩ : b = b' ∧ off = off' := by simpa using e
      exact hcl 2 h)
    clear HB
    by_cases hk1 : k0 = 1
    · have d1 : ((k0 : Int) == 1) = true := by simp; omega
      clear hk1
      go_wp2
      clear a0 a1 a2 a3 a4 a5 a6 a7 a8
      go_loopw [4, 12] (fun v4 v12 wr => RdEv b3 n w xs k0 r0 v4 v12 wr) (fun _ v12 _ => 22 - (intOf v12).toNat)
      case atStart => exact ⟨0, 3, [], .slice none 0 0, by omega, rfl, rfl, rfl, Lib.hid (fun h => h), Lib.hid ⟨0, rfl, evback_nil xs⟩, KF4, Lib.hid (OwnE.nil _ _), KR4, U4⟩
      case round =>
        obtain ⟨i, q, es, v, hi, hes, rfl, rfl, HQ, HE, KF, O1, KR, UU⟩ := hrel
        clear KF4 KR4 U4
        by_cases hn : 2 < n
        · have c2 := HB2.out wr UU.out hn
          have hnI : (2 : Int) < n := by omega
          have m6 := H256.out 2
          have hmm := Lib.hid (show Pl.nth xs 2 = Pl.nth xs 2 from rfl)
          generalize hm2 : Pl.nth xs 2 = m at c2 m6
          have HM := Lib.hid hm2
          clear hm2 hmm
          have wm : IntKind.i64.wrap (m : Int) = m := by rw [IntKind.wrap_i64]; omega
          by_cases him : i < m
          · have himI : (i : Int) < m := by omega
            by_cases hi20 : i ≤ 20
            · have hi20I : (i : Int) ≤ 20 := by omega
              have hq := HQ.out hn
              go_upto_region 23 with (fail)
              go_cut [13, 14] (fun v13 v14 wx => ∃ (g : Nat) (e : Ev) (k z : Nat), v13 = .pointer (some ⟨g, 0, none⟩) ∧ v14 = .int .i64 k ∧ Hid (q + k ≤ n) ∧ Hid (RtRel (xs.drop q) e k z) ∧ Hid (Blk wx g e.cells 51) ∧ Hid (w.heap.size + 2 ≤ g) ∧ Hid (Lex.Up wr wx))
              case first =>
                by_cases hcu : cap = q
                · have hn2 : n = q := by omega
                  subst hcu hn2
                  have SD := Lib.hid (show Slc wr (some ⟨b, off, none⟩) 0 0 (xs.drop n) from slc_end hl)
                  go_wp2_with fail
                  refine (CE.out _ _ _ (xs.drop n) _ SD.out).mono ?_
                  rintro x w5 ⟨e, k, z, rfl, hk, hr, hb⟩
                  go_wp2_with fail
                  go_meet
                  have lt3 := KF.out.lt
                  have sz := hb.size
                  exact ⟨_, e, k, z, rfl, rfl, Lib.hid (by omega), Lib.hid hr, Lib.hid (Blk.new w5 (Ev.cells e) 51), Lib.hid (by omega), Lib.hid (hb.alloc sz _)⟩
                · have SD := Lib.hid (slc_rest (SL.out wr UU.out) (u := q) hq hcu)
                  have hi1 : (q : Int) ≤ n := by omega
                  go_wp2_with fail
                  refine (CE.out _ _ _ (xs.drop q) _ SD.out).mono ?_
                  rintro x w5 ⟨e, k, z, rfl, hk, hr, hb⟩
                  go_wp2_with fail
                  go_meet
                  have lt3 := KF.out.lt
                  have sz := hb.size
                  exact ⟨_, e, k, z, rfl, rfl, Lib.hid (by omega), Lib.hid hr, Lib.hid (Blk.new w5 (Ev.cells e) 51), Lib.hid (by omega), Lib.hid (hb.alloc sz _)⟩
              case rest =>
                obtain ⟨g, e, k, z, rfl, rfl, HK, HRl, KE, HG, UC⟩ := hcut
                obtain ⟨A9, cap9, hv, -⟩ := O1.out.sl
                rw [hes] at hv
                subst hv
                have O7 := Lib.hid (O1.out.up UC.out)
                have N2 := Lib.hid (KF.out.up UC.out)
                have N1 := Lib.hid (KR.out.up UC.out)
                have UN := Lib.hid (UU.out.trans (Below.mono UC.out UU.out.size))
                have HEn := Lib.hid (show ∃ p, q + k = 3 + p ∧ EvBack xs (es ++ [e]) p by
                  obtain ⟨p, hp, hE⟩ := HE.out
                  exact ⟨p + k, by omega, evback_step hE (by rw [← hp]; exact HRl.out) (by rw [HM.out, hes]; exact him)⟩)
                have wq : IntKind.i64.wrap ((q : Int) + k) = (q + k : Nat) := by have := HK.out; rw [IntKind.wrap_i64]; omega
                clear UC KF KR UU O1 HE HQ c2 CE CT HRl hq
                have S8 := Lib.hid (show Sl (wc.alloc (.cells (Ev.cells e) 51)) 12 (some ⟨wc.heap.size, 0, none⟩) 1 1 (evc [e]) from Sl.of_blk (by rw [evc_one]; exact Blk.new wc (Ev.cells e) 51) (by rw [evc_len]; rfl) (by decide))
                have O8 := Lib.hid (O7.out.up (up_blk (cs := Ev.cells e) (t := 51) (Lex.Up.refl wc)))
                have P1 := Lib.hid (N1.out.alloc (.cells (Ev.cells e) 51)); have P2 := Lib.hid (N2.out.alloc (.cells (Ev.cells e) 51))
                have UP := Lib.hid (show Below w.heap.size w (wc.alloc (.cells (Ev.cells e) 51)) from UN.out.alloc UN.out.size _)
                have Z8 : w.heap.size + 2 ≤ (wc.alloc (.cells (Ev.cells e) 51)).heap.size := by have := N2.out.lt; simp; omega
                have OB := Lib.hid O7.out.base
                obtain ⟨a0, a1, a2, a3, a4, a5, a6, a7, a8⟩ := N2.out.fr
                obtain ⟨e0, e1, e2, e3, e4, e5, e6, e7, e8, e9, e10, e11⟩ := Blk.all wc KE.out
                have f8 := N2.out.frozen 8
                have hne : b3 ≠ wc.heap.size := by have := N2.out.lt; omega
                go_wp2_with (at_builtin; refine ES12.wpList_append (by rfl) _ _ rfl (w.heap.size + 2) _ es.length (evc es) rfl O8.out (some ⟨wc.heap.size, 0, none⟩) 1 1 (evc [e]) rfl S8.out (evc_one' _) (by omega) (by simp only [maxLen]; omega) Z8 ?_)
                intro v9 w9 hown9 hg9
                have O9 : OwnE w9 (w.heap.size + 2) v9 (es ++ [e]) := by unfold OwnE; rw [evc_append, List.length_append, show [e].length = 1 from rfl, hes]; exact hown9
                obtain ⟨A8, cap8, q9, -⟩ := O9.sl
                rw [List.length_append, show [e].length = 1 from rfl, hes] at q9
                subst q9
                have Q1 := Lib.hid (P1.out.row hg9 OB.out (by omega)); have Q2 := Lib.hid (P2.out.row hg9 OB.out (by omega))
                have UQ := Lib.hid (show Below w.heap.size w w9 from Below.grown UP.out hg9 UP.out.size (fun k hk => by have := OB.out k hk; omega))
                have OQ := Lib.hid O9
                clear S8 O8 P1 P2 UP Z8 OB a0 a1 a2 a3 a4 a5 a6 a7 a8 e0 e1 e2 e3 e4 e5 e6 e7 e8 e9 e10 e11 f8 hne hown9 hg9 O9 N1 N2 O7 UN KE
                have g8 := Q2.out.frozen 8
                have b8 := Q2.out.cell (j := 8) rfl
                have hl9 : (es ++ [e]).length = i + 1 := by simp [hes]
                go_wp2
                go_roundw
                case rel =>
                  refine ⟨i + 1, q + k, es ++ [e], _, by omega, hl9, by go_num, by simp, Lib.hid (fun _ => HK.out), HEn, Lib.hid (Q2.out.set 8 _), Lib.hid (OQ.out.by_ (by_set w9 ⟨b3, 8, none⟩ _) (by omega)), Lib.hid (Q1.out.other (p := ⟨b3, 8, none⟩) (by simp only; omega) _), Lib.hid (UQ.out.setCell (p := ⟨b3, 8, none⟩) (by simp only; omega) _)⟩
                case measure => simp [intOf]; omega
            · have hi20I : ¬ (i : Int) ≤ 20 := by omega
              subst hes
              have BK := Lib.hid (by obtain ⟨p, _, hp⟩ := HE.out; exact rdback_evs (k0 := k0) (r0 := r0) BT.out hk14 hp (.inr (.inr (by omega))))
              clear HE HQ
              obtain ⟨A9, cap9, rfl, -⟩ := O1.out.sl
              go_upto_region 26 with (fail)
              obtain ⟨a0, a1, a2, a3, a4, a5, a6, a7, a8⟩ := KF.out.fr
              obtain ⟨j0, j1, j2, j3, j4, j5, j6, j7, j8⟩ := KR.out.fr
              have fr := KR.out.frozen
              have f0 := fr 0; have f1 := fr 1; have f2 := fr 2; have f3 := fr 3; have f4 := fr 4; have f5 := fr 5; have f6 := fr 6; have f7 := fr 7; have f8 := fr 8
              clear fr
              go_wp2
              change bodyPost _ _ _ _ _ (put9 wr w.heap.size (⟨k0, r0, 0, Ck.zero, es⟩ : Fr) (.slice A9 es.length cap9))
              have K := put9_blk KR.out (⟨k0, r0, 0, Ck.zero, es⟩ : Fr) (.slice A9 es.length cap9)
              have BB := put9_below UU.out (Nat.le_refl _) (⟨k0, r0, 0, Ck.zero, es⟩ : Fr) (.slice A9 es.length cap9)
              have OE := OwnE.by_ O1.out (put9_by wr w.heap.size (⟨k0, r0, 0, Ck.zero, es⟩ : Fr) (.slice A9 es.length cap9)) (Nat.lt_succ_of_lt (Nat.lt_succ_self _))
              generalize put9 wr w.heap.size (⟨k0, r0, 0, Ck.zero, es⟩ : Fr) (.slice A9 es.length cap9) = W5 at *
              obtain ⟨k0', k1', k2', k3', k4', k5', k6', k7', k8'⟩ := K.fr
              exact bodyPost_ret (v := Fr.val (⟨k0, r0, 0, Ck.zero, es⟩ : Fr) (.slice A9 es.length cap9)) (by simp [results, Try.results50, go_sem, Fr.val, k0', k1', k2', k3', k4', k5', k6', k7', k8']) rfl ⟨(⟨k0, r0, 0, Ck.zero, es⟩ : Fr), _, _, rfl, OE.mono (Nat.le_add_right _ _), BB, BK.out, (by simp only; omega)⟩
          · have himI : ¬ (i : Int) < m := by omega
            subst hes
            have BK := Lib.hid (by obtain ⟨p, _, hp⟩ := HE.out; exact rdback_evs (k0 := k0) (r0 := r0) BT.out hk14 hp (.inr (.inl (by rw [HM.out]; omega))))
            clear HE HQ
            obtain ⟨A9, cap9, rfl, -⟩ := O1.out.sl
            go_upto_region 26 with (fail)
            obtain ⟨a0, a1, a2, a3, a4, a5, a6, a7, a8⟩ := KF.out.fr
            obtain ⟨j0, j1, j2, j3, j4, j5, j6, j7, j8⟩ := KR.out.fr
            have fr := KR.out.frozen
            have f0 := fr 0; have f1 := fr 1; have f2 := fr 2; have f3 := fr 3; have f4 := fr 4; have f5 := fr 5; have f6 := fr 6; have f7 := fr 7; have f8 := fr 8
            clear fr
            go_wp2
            change bodyPost _ _ _ _ _ (put9 wr w.heap.size (⟨k0, r0, 0, Ck.zero, es⟩ : Fr) (.slice A9 es.length cap9))
            have K := put9_blk KR.out (⟨k0, r0, 0, Ck.zero, es⟩ : Fr) (.slice A9 es.length cap9)
            have BB := put9_below UU.out (Nat.le_refl _) (⟨k0, r0, 0, Ck.zero, es⟩ : Fr) (.slice A9 es.length cap9)
            have OE := OwnE.by_ O1.out (put9_by wr w.heap.size (⟨k0, r0, 0, Ck.zero, es⟩ : Fr) (.slice A9 es.length cap9)) (Nat.lt_succ_of_lt (Nat.lt_succ_self _))
            generalize put9 wr w.heap.size (⟨k0, r0, 0, Ck.zero, es⟩ : Fr) (.slice A9 es.length cap9) = W5 at *
            obtain ⟨k0', k1', k2', k3', k4', k5', k6', k7', k8'⟩ := K.fr
            exact bodyPost_ret (v := Fr.val (⟨k0, r0, 0, Ck.zero, es⟩ : Fr) (.slice A9 es.length cap9)) (by simp [results, Try.results50, go_sem, Fr.val, k0', k1', k2', k3', k4', k5', k6', k7', k8']) rfl ⟨(⟨k0, r0, 0, Ck.zero, es⟩ : Fr), _, _, rfl, OE.mono (Nat.le_add_right _ _), BB, BK.out, (by simp only; omega)⟩
        · have hnI : ¬ (2 : Int) < n := by omega
          subst hes
          have BK := Lib.hid (by obtain ⟨p, _, hp⟩ := HE.out; exact rdback_evs (k0 := k0) (r0 := r0) BT.out hk14 hp (.inl (by omega)))
          clear HE HQ
          obtain ⟨A9, cap9, rfl, -⟩ := O1.out.sl
          go_upto_region 26 with (fail)
          obtain ⟨a0, a1, a2, a3, a4, a5, a6, a7, a8⟩ := KF.out.fr
          obtain ⟨j0, j1, j2, j3, j4, j5, j6, j7, j8⟩ := KR.out.fr
          have fr := KR.out.frozen
          have f0 := fr 0; have f1 := fr 1; have f2 := fr 2; have f3 := fr 3; have f4 := fr 4; have f5 := fr 5; have f6 := fr 6; have f7 := fr 7; have f8 := fr 8
          clear fr
          go_wp2
          change bodyPost _ _ _ _ _ (put9 wr w.heap.size (⟨k0, r0, 0, Ck.zero, es⟩ : Fr) (.slice A9 es.length cap9))
          have K := put9_blk KR.out (⟨k0, r0, 0, Ck.zero, es⟩ : Fr) (.slice A9 es.length cap9)
          have BB := put9_below UU.out (Nat.le_refl _) (⟨k0, r0, 0, Ck.zero, es⟩ : Fr) (.slice A9 es.length cap9)
          have OE := OwnE.by_ O1.out (put9_by wr w.heap.size (⟨k0, r0, 0, Ck.zero, es⟩ : Fr) (.slice A9 es.length cap9)) (Nat.lt_succ_of_lt (Nat.lt_succ_self _))
          generalize put9 wr w.heap.size (⟨k0, r0, 0, Ck.zero, es⟩ : Fr) (.slice A9 es.length cap9) = W5 at *
          obtain ⟨k0', k1', k2', k3', k4', k5', k6', k7', k8'⟩ := K.fr
          exact bodyPost_ret (v := Fr.val (⟨k0, r0, 0, Ck.zero, es⟩ : Fr) (.slice A9 es.length cap9)) (by simp [results, Try.results50, go_sem, Fr.val, k0', k1', k2', k3', k4', k5', k6', k7', k8']) rfl ⟨(⟨k0, r0, 0, Ck.zero, es⟩ : Fr), _, _, rfl, OE.mono (Nat.le_add_right _ _), BB, BK.out, (by simp only; omega)⟩
    · have d1 : ((k0 : Int) == 1) = false := by simp; omega
      have d4 : ((k0 : Int) == 4) = true := by simp; omega
      clear hk1
      go_wp2
      clear a0 a1 a2 a3 a4 a5 a6 a7 a8
      go_loopw [4, 12] (fun v4 v12 wr => RdEv b3 n w xs k0 r0 v4 v12 wr) (fun _ v12 _ => 22 - (intOf v12).toNat)
      case atStart => exact ⟨0, 3, [], .slice none 0 0, by omega, rfl, rfl, rfl, Lib.hid (fun h => h), Lib.hid ⟨0, rfl, evback_nil xs⟩, KF4, Lib.hid (OwnE.nil _ _), KR4, U4⟩
      case round =>
        obtain ⟨i, q, es, v, hi, hes, rfl, rfl, HQ, HE, KF, O1, KR, UU⟩ := hrel
        clear KF4 KR4 U4
        by_cases hn : 2 < n
        · have c2 := HB2.out wr UU.out hn
          have hnI : (2 : Int) < n := by omega
          have m6 := H256.out 2
          have hmm := Lib.hid (show Pl.nth xs 2 = Pl.nth xs 2 from rfl)
          generalize hm2 : Pl.nth xs 2 = m at c2 m6
          have HM := Lib.hid hm2
          clear hm2 hmm
          have wm : IntKind.i64.wrap (m : Int) = m := by rw [IntKind.wrap_i64]; omega
          by_cases him : i < m
          · have himI : (i : Int) < m := by omega
            by_cases hi20 : i ≤ 20
            · have hi20I : (i : Int) ≤ 20 := by omega
              have hq := HQ.out hn
              go_upto_region 23 with (fail)
              go_cut [13, 14] (fun v13 v14 wx => ∃ (g : Nat) (e : Ev) (k z : Nat), v13 = .pointer (some ⟨g, 0, none⟩) ∧ v14 = .int .i64 k ∧ Hid (q + k ≤ n) ∧ Hid (RtRel (xs.drop q) e k z) ∧ Hid (Blk wx g e.cells 51) ∧ Hid (w.heap.size + 2 ≤ g) ∧ Hid (Lex.Up wr wx))
              case first =>
                by_cases hcu : cap = q
                · have hn2 : n = q := by omega
                  subst hcu hn2
                  have SD := Lib.hid (show Slc wr (some ⟨b, off, none⟩) 0 0 (xs.drop n) from slc_end hl)
                  go_wp2_with fail
                  refine (CE.out _ _ _ (xs.drop n) _ SD.out).mono ?_
                  rintro x w5 ⟨e, k, z, rfl, hk, hr, hb⟩
                  go_wp2_with fail
                  go_meet
                  have lt3 := KF.out.lt
                  have sz := hb.size
                  exact ⟨_, e, k, z, rfl, rfl, Lib.hid (by omega), Lib.hid hr, Lib.hid (Blk.new w5 (Ev.cells e) 51), Lib.hid (by omega), Lib.hid (hb.alloc sz _)⟩
                · have SD := Lib.hid (slc_rest (SL.out wr UU.out) (u := q) hq hcu)
                  have hi1 : (q : Int) ≤ n := by omega
                  go_wp2_with fail
                  refine (CE.out _ _ _ (xs.drop q) _ SD.out).mono ?_
                  rintro x w5 ⟨e, k, z, rfl, hk, hr, hb⟩
                  go_wp2_with fail
                  go_meet
                  have lt3 := KF.out.lt
                  have sz := hb.size
                  exact ⟨_, e, k, z, rfl, rfl, Lib.hid (by omega), Lib.hid hr, Lib.hid (Blk.new w5 (Ev.cells e) 51), Lib.hid (by omega), Lib.hid (hb.alloc sz _)⟩
              case rest =>
                obtain ⟨g, e, k, z, rfl, rfl, HK, HRl, KE, HG, UC⟩ := hcut
                obtain ⟨A9, cap9, hv, -⟩ := O1.out.sl
                rw [hes] at hv
                subst hv
                have O7 := Lib.hid (O1.out.up UC.out)
                have N2 := Lib.hid (KF.out.up UC.out)
                have N1 := Lib.hid (KR.out.up UC.out)
                have UN := Lib.hid (UU.out.trans (Below.mono UC.out UU.out.size))
                have HEn := Lib.hid (show ∃ p, q + k = 3 + p ∧ EvBack xs (es ++ [e]) p by
                  obtain ⟨p, hp, hE⟩ := HE.out
                  exact ⟨p + k, by omega, evback_step hE (by rw [← hp]; exact HRl.out) (by rw [HM.out, hes]; exact him)⟩)
                have wq : IntKind.i64.wrap ((q : Int) + k) = (q + k : Nat) := by have := HK.out; rw [IntKind.wrap_i64]; omega
                clear UC KF KR UU O1 HE HQ c2 CE CT HRl hq
                have S8 := Lib.hid (show Sl (wc.alloc (.cells (Ev.cells e) 51)) 12 (some ⟨wc.heap.size, 0, none⟩) 1 1 (evc [e]) from Sl.of_blk (by rw [evc_one]; exact Blk.new wc (Ev.cells e) 51) (by rw [evc_len]; rfl) (by decide))
                have O8 := Lib.hid (O7.out.up (up_blk (cs := Ev.cells e) (t := 51) (Lex.Up.refl wc)))
                have P1 := Lib.hid (N1.out.alloc (.cells (Ev.cells e) 51)); have P2 := Lib.hid (N2.out.alloc (.cells (Ev.cells e) 51))
                have UP := Lib.hid (show Below w.heap.size w (wc.alloc (.cells (Ev.cells e) 51)) from UN.out.alloc UN.out.size _)
                have Z8 : w.heap.size + 2 ≤ (wc.alloc (.cells (Ev.cells e) 51)).heap.size := by have := N2.out.lt; simp; omega
                have OB := Lib.hid O7.out.base
                obtain ⟨a0, a1, a2, a3, a4, a5, a6, a7, a8⟩ := N2.out.fr
                obtain ⟨e0, e1, e2, e3, e4, e5, e6, e7, e8, e9, e10, e11⟩ := Blk.all wc KE.out
                have f8 := N2.out.frozen 8
                have hne : b3 ≠ wc.heap.size := by have := N2.out.lt; omega
                go_wp2_with (at_builtin; refine ES12.wpList_append (by rfl) _ _ rfl (w.heap.size + 2) _ es.length (evc es) rfl O8.out (some ⟨wc.heap.size, 0, none⟩) 1 1 (evc [e]) rfl S8.out (evc_one' _) (by omega) (by simp only [maxLen]; omega) Z8 ?_)
                intro v9 w9 hown9 hg9
                have O9 : OwnE w9 (w.heap.size + 2) v9 (es ++ [e]) := by unfold OwnE; rw [evc_append, List.length_append, show [e].length = 1 from rfl, hes]; exact hown9
                obtain ⟨A8, cap8, q9, -⟩ := O9.sl
                rw [List.length_append, show [e].length = 1 from rfl, hes] at q9
                subst q9
                have Q1 := Lib.hid (P1.out.row hg9 OB.out (by omega)); have Q2 := Lib.hid (P2.out.row hg9 OB.out (by omega))
                have UQ := Lib.hid (show Below w.heap.size w w9 from Below.grown UP.out hg9 UP.out.size (fun k hk => by have := OB.out k hk; omega))
                have OQ := Lib.hid O9
                clear S8 O8 P1 P2 UP Z8 OB a0 a1 a2 a3 a4 a5 a6 a7 a8 e0 e1 e2 e3 e4 e5 e6 e7 e8 e9 e10 e11 f8 hne hown9 hg9 O9 N1 N2 O7 UN KE
                have g8 := Q2.out.frozen 8
                have b8 := Q2.out.cell (j := 8) rfl
                have hl9 : (es ++ [e]).length = i + 1 := by simp [hes]
                go_wp2
                go_roundw
                case rel =>
                  refine ⟨i + 1, q + k, es ++ [e], _, by omega, hl9, by go_num, by simp, Lib.hid (fun _ => HK.out), HEn, Lib.hid (Q2.out.set 8 _), Lib.hid (OQ.out.by_ (by_set w9 ⟨b3, 8, none⟩ _) (by omega)), Lib.hid (Q1.out.other (p := ⟨b3, 8, none⟩) (by simp only; omega) _), Lib.hid (UQ.out.setCell (p := ⟨b3, 8, none⟩) (by simp only; omega) _)⟩
                case measure => simp [intOf]; omega
            · have hi20I : ¬ (i : Int) ≤ 20 := by omega
              subst hes
              have BK := Lib.hid (by obtain ⟨p, _, hp⟩ := HE.out; exact rdback_evs (k0 := k0) (r0 := r0) BT.out hk14 hp (.inr (.inr (by omega))))
              clear HE HQ
              obtain ⟨A9, cap9, rfl, -⟩ := O1.out.sl
              go_upto_region 26 with (fail)
              obtain ⟨a0, a1, a2, a3, a4, a5, a6, a7, a8⟩ := KF.out.fr
              obtain ⟨j0, j1, j2, j3, j4, j5, j6, j7, j8⟩ := KR.out.fr
              have fr := KR.out.frozen
              have f0 := fr 0; have f1 := fr 1; have f2 := fr 2; have f3 := fr 3; have f4 := fr 4; have f5 := fr 5; have f6 := fr 6; have f7 := fr 7; have f8 := fr 8
              clear fr
              go_wp2
              change bodyPost _ _ _ _ _ (put9 wr w.heap.size (⟨k0, r0, 0, Ck.zero, es⟩ : Fr) (.slice A9 es.length cap9))
              have K := put9_blk KR.out (⟨k0, r0, 0, Ck.zero, es⟩ : Fr) (.slice A9 es.length cap9)
              have BB := put9_below UU.out (Nat.le_refl _) (⟨k0, r0, 0, Ck.zero, es⟩ : Fr) (.slice A9 es.length cap9)
              have OE := OwnE.by_ O1.out (put9_by wr w.heap.size (⟨k0, r0, 0, Ck.zero, es⟩ : Fr) (.slice A9 es.length cap9)) (Nat.lt_succ_of_lt (Nat.lt_succ_self _))
              generalize put9 wr w.heap.size (⟨k0, r0, 0, Ck.zero, es⟩ : Fr) (.slice A9 es.length cap9) = W5 at *
              obtain ⟨k0', k1', k2', k3', k4', k5', k6', k7', k8'⟩ := K.fr
              exact bodyPost_ret (v := Fr.val (⟨k0, r0, 0, Ck.zero, es⟩ : Fr) (.slice A9 es.length cap9)) (by simp [results, Try.results50, go_sem, Fr.val, k0', k1', k2', k3', k4', k5', k6', k7', k8']) rfl ⟨(⟨k0, r0, 0, Ck.zero, es⟩ : Fr), _, _, rfl, OE.mono (Nat.le_add_right _ _), BB, BK.out, (by simp only; omega)⟩
          · have himI : ¬ (i : Int) < m := by omega
            subst hes
            have BK := Lib.hid (by obtain ⟨p, _, hp⟩ := HE.out; exact rdback_evs (k0 := k0) (r0 := r0) BT.out hk14 hp (.inr (.inl (by rw [HM.out]; omega))))
            clear HE HQ
            obtain ⟨A9, cap9, rfl, -⟩ := O1.out.sl
            go_upto_region 26 with (fail)
            obtain ⟨a0, a1, a2, a3, a4, a5, a6, a7, a8⟩ := KF.out.fr
            obtain ⟨j0, j1, j2, j3, j4, j5, j6, j7, j8⟩ := KR.out.fr
            have fr := KR.out.frozen
            have f0 := fr 0; have f1 := fr 1; have f2 := fr 2; have f3 := fr 3; have f4 := fr 4; have f5 := fr 5; have f6 := fr 6; have f7 := fr 7; have f8 := fr 8
            clear fr
            go_wp2
            change bodyPost _ _ _ _ _ (put9 wr w.heap.size (⟨k0, r0, 0, Ck.zero, es⟩ : Fr) (.slice A9 es.length cap9))
            have K := put9_blk KR.out (⟨k0, r0, 0, Ck.zero, es⟩ : Fr) (.slice A9 es.length cap9)
            have BB := put9_below UU.out (Nat.le_refl _) (⟨k0, r0, 0, Ck.zero, es⟩ : Fr) (.slice A9 es.length cap9)
            have OE := OwnE.by_ O1.out (put9_by wr w.heap.size (⟨k0, r0, 0, Ck.zero, es⟩ : Fr) (.slice A9 es.length cap9)) (Nat.lt_succ_of_lt (Nat.lt_succ_self _))
            generalize put9 wr w.heap.size (⟨k0, r0, 0, Ck.zero, es⟩ : Fr) (.slice A9 es.length cap9) = W5 at *
            obtain ⟨k0', k1', k2', k3', k4', k5', k6', k7', k8'⟩ := K.fr
            exact bodyPost_ret (v := Fr.val (⟨k0, r0, 0, Ck.zero, es⟩ : Fr) (.slice A9 es.length cap9)) (by simp [results, Try.results50, go_sem, Fr.val, k0', k1', k2', k3', k4', k5', k6', k7', k8']) rfl ⟨(⟨k0, r0, 0, Ck.zero, es⟩ : Fr), _, _, rfl, OE.mono (Nat.le_add_right _ _), BB, BK.out, (by simp only; omega)⟩
        · have hnI : ¬ (2 : Int) < n := by omega
          subst hes
          have BK := Lib.hid (by obtain ⟨p, _, hp⟩ := HE.out; exact rdback_evs (k0 := k0) (r0 := r0) BT.out hk14 hp (.inl (by omega)))
          clear HE HQ
          obtain ⟨A9, cap9, rfl, -⟩ := O1.out.sl
          go_upto_region 26 with (fail)
          obtain ⟨a0, a1, a2, a3, a4, a5, a6, a7, a8⟩ := KF.out.fr
          obtain ⟨j0, j1, j2, j3, j4, j5, j6, j7, j8⟩ := KR.out.fr
          have fr := KR.out.frozen
          have f0 := fr 0; have f1 := fr 1; have f2 := fr 2; have f3 := fr 3; have f4 := fr 4; have f5 := fr 5; have f6 := fr 6; have f7 := fr 7; have f8 := fr 8
          clear fr
          go_wp2
          change bodyPost _ _ _ _ _ (put9 wr w.heap.size (⟨k0, r0, 0, Ck.zero, es⟩ : Fr) (.slice A9 es.length cap9))
          have K := put9_blk KR.out (⟨k0, r0, 0, Ck.zero, es⟩ : Fr) (.slice A9 es.length cap9)
          have BB := put9_below UU.out (Nat.le_refl _) (⟨k0, r0, 0, Ck.zero, es⟩ : Fr) (.slice A9 es.length cap9)
          have OE := OwnE.by_ O1.out (put9_by wr w.heap.size (⟨k0, r0, 0, Ck.zero, es⟩ : Fr) (.slice A9 es.length cap9)) (Nat.lt_succ_of_lt (Nat.lt_succ_self _))
          generalize put9 wr w.heap.size (⟨k0, r0, 0, Ck.zero, es⟩ : Fr) (.slice A9 es.length cap9) = W5 at *
          obtain ⟨k0', k1', k2', k3', k4', k5', k6', k7', k8'⟩ := K.fr
          exact bodyPost_ret (v := Fr.val (⟨k0, r0, 0, Ck.zero, es⟩ : Fr) (.slice A9 es.length cap9)) (by simp [results, Try.results50, go_sem, Fr.val, k0', k1', k2', k3', k4', k5', k6', k7', k8']) rfl ⟨(⟨k0, r0, 0, Ck.zero, es⟩ : Fr), _, _, rfl, OE.mono (Nat.le_add_right _ _), BB, BK.out, (by simp only; omega)⟩
  · have d1 : ((k0 : Int) == 1) = false := by simp; omega
    have d4 : ((k0 : Int) == 4) = false := by simp; omega
    have BK := Lib.hid (rdback_none BT.out (by omega) ⟨k0, r0, 0, Ck.zero, []⟩)
    have O5 := Lib.hid (OwnE.nil W4 (w.heap.size + 2))
    clear hk2 hk35 hk14
    go_upto_region 26 with (fail)
    clear a0 a1 a2 a3 a4 a5 a6 a7 a8
    obtain ⟨a0, a1, a2, a3, a4, a5, a6, a7, a8⟩ := KF4.out.fr
    obtain ⟨j0, j1, j2, j3, j4, j5, j6, j7, j8⟩ := KR4.out.fr
    have fr := KR4.out.frozen
    have f0 := fr 0; have f1 := fr 1; have f2 := fr 2; have f3 := fr 3; have f4 := fr 4; have f5 := fr 5; have f6 := fr 6; have f7 := fr 7; have f8 := fr 8
    clear fr
    go_wp2
    change bodyPost _ _ _ _ _ (put9 W4 w.heap.size (⟨k0, r0, 0, Ck.zero, []⟩ : Fr) (.slice none 0 0))
    have K := put9_blk KR4.out (⟨k0, r0, 0, Ck.zero, []⟩ : Fr) (.slice none 0 0)
    have BB := put9_below U4.out (Nat.le_refl _) (⟨k0, r0, 0, Ck.zero, []⟩ : Fr) (.slice none 0 0)
    have OE := OwnE.by_ O5.out (put9_by W4 w.heap.size (⟨k0, r0, 0, Ck.zero, []⟩ : Fr) (.slice none 0 0)) (Nat.lt_succ_of_lt (Nat.lt_succ_self _))
    generalize put9 W4 w.heap.size (⟨k0, r0, 0, Ck.zero, []⟩ : Fr) (.slice none 0 0) = W5 at *
    obtain ⟨k0', k1', k2', k3', k4', k5', k6', k7', k8'⟩ := K.fr
    exact bodyPost_ret (v := Fr.val (⟨k0, r0, 0, Ck.zero, []⟩ : Fr) (.slice none 0 0)) (by simp [results, Try.results50, go_sem, Fr.val, k0', k1', k2', k3', k4', k5', k6', k7', k8']) rfl ⟨(⟨k0, r0, 0, Ck.zero, []⟩ : Fr), _, _, rfl, OE.mono (Nat.le_add_right _ _), BB, BK.out, (by simp)⟩
end Go.Proofs.Ythgfbnkggdlokaa

