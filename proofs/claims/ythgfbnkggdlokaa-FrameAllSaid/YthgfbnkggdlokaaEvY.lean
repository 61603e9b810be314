/-
  An event's bytes, taken and put: plain.
-/
import Derived.Test.YthgfbnkggdlokaaEvX
namespace Go.Proofs.Ythgfbnkggdlokaa
open Go.RowKit
set_option maxRecDepth 100000

theorem Ck.set_get (c : Ck) (k j : Nat) (x : Int) (h : j < 5) : (c.set k x).get j = if j = k then x else c.get j := by
  match j, h with
  | 0, _ | 1, _ | 2, _ | 3, _ | 4, _ => simp only [Ck.set, Ck.get]; congr 1; simp [eq_comm]
theorem Ck.ext_get {a b : Ck} (h : ∀ j, j < 5 → a.get j = b.get j) : a = b := by
  rw [Ck.ext_iff']
  exact ⟨h 0 (by omega), h 1 (by omega), h 2 (by omega), h 3 (by omega), h 4 (by omega)⟩
namespace Ev
/-- d, with the first i numbers but that of r out of c. -/
def mix (r : Int) (c d : Ck) : Nat → Ck
  | 0 => d
  | i + 1 => if (i : Int) = r then mix r c d i else (mix r c d i).set i (c.get i)
theorem mix_get (r : Int) (c d : Ck) : ∀ i : Nat, i ≤ 5 → ∀ j : Nat, j < 5 → (mix r c d i).get j = if j < i ∧ (j : Int) ≠ r then c.get j else d.get j
  | 0, _, j, hj => by simp [mix]
  | i + 1, hi, j, hj => by
    have ih := mix_get r c d i (by omega) j hj
    rw [mix]
    by_cases h : (i : Int) = r
    · rw [if_pos h, ih]
      by_cases h1 : j < i ∧ (j : Int) ≠ r
      · rw [if_pos h1, if_pos ⟨by omega, h1.2⟩]
      · rw [if_neg h1, if_neg (by omega)]
    · rw [if_neg h, Ck.set_get _ _ _ _ hj, ih]
      by_cases h2 : j = i
      · rw [if_pos h2, if_pos ⟨by omega, by omega⟩, h2]
      · rw [if_neg h2]
        by_cases h1 : j < i ∧ (j : Int) ≠ r
        · rw [if_pos h1, if_pos ⟨by omega, h1.2⟩]
        · rw [if_neg h1, if_neg (by omega)]
theorem mix_congr (r : Int) {c c' : Ck} (d : Ck) : ∀ i : Nat, (∀ j : Nat, j < i → (j : Int) ≠ r → c.get j = c'.get j) → mix r c d i = mix r c' d i
  | 0, _ => rfl
  | i + 1, h => by
    rw [mix, mix, mix_congr r d i fun j hj => h j (by omega)]
    by_cases hr : (i : Int) = r
    · rw [if_pos hr, if_pos hr]
    · rw [if_neg hr, if_neg hr, h i (by omega) hr]
theorem others_congr (r : Int) {c c' : Ck} : ∀ i : Nat, (∀ j : Nat, j < i → (j : Int) ≠ r → c.get j = c'.get j) → others r c i = others r c' i
  | 0, _ => rfl
  | i + 1, h => by
    rw [others, others, others_congr r i fun j hj => h j (by omega)]
    by_cases hr : (i : Int) = r
    · rw [if_pos hr, if_pos hr]
    · rw [if_neg hr, if_neg hr, h i (by omega) hr]
end Ev
namespace Fl
def otS (r : Int) : Nat → List Sp
  | 0 => []
  | i + 1 => otS r i ++ if (i : Int) = r then [] else [leafS (numD 0 1048576) (setC i)]
theorem Codecs.append : ∀ {fs gs : List Fl} {Ss Ts : List Sp}, Codecs fs Ss → Codecs gs Ts → Codecs (fs ++ gs) (Ss ++ Ts)
  | [], _, [], _, _, h => h
  | _ :: _, _, _ :: _, _, ⟨h1, h2⟩, h => ⟨h1, h2.append h⟩
  | [], _, _ :: _, _, h, _ => h.elim
  | _ :: _, _, [], _, h, _ => h.elim
theorem ots_codecs (r : Int) : ∀ i, Codecs (ots r i) (otS r i)
  | 0 => trivial
  | i + 1 => by
    refine (ots_codecs r i).append ?_
    split
    · trivial
    · exact ⟨leaf_codec (num_lc 0 1048576 (by decide)) _, trivial⟩
theorem RS_append : ∀ (Ss Ts : List Sp) (e e' : Ev) (bs : List Nat), RS (Ss ++ Ts) e e' bs ↔ ∃ e1 b1 b2, RS Ss e e1 b1 ∧ RS Ts e1 e' b2 ∧ bs = b1 ++ b2
  | [], Ts, e, e', bs => by
    constructor
    · intro h; exact ⟨e, [], bs, ⟨rfl, rfl⟩, h, rfl⟩
    · rintro ⟨e1, b1, b2, ⟨rfl, rfl⟩, h, rfl⟩; exact h
  | S :: Ss, Ts, e, e', bs => by
    constructor
    · rintro ⟨e1, b1, b2, h1, h2, rfl⟩
      obtain ⟨e2, b3, b4, h3, h4, rfl⟩ := (RS_append Ss Ts e1 e' b2).1 h2
      exact ⟨e2, b1 ++ b3, b4, ⟨e1, b1, b3, h1, h3, rfl⟩, h4, (List.append_assoc _ _ _).symm⟩
    · rintro ⟨e2, b1, b2, ⟨e1, b3, b4, h1, h3, rfl⟩, h4, rfl⟩
      exact ⟨e1, b3, b4 ++ b2, h1, (RS_append Ss Ts e1 e' _).2 ⟨e2, b4, b2, h3, h4, rfl⟩, List.append_assoc _ _ _⟩
theorem seen_go (r : Int) (c : Ck) (e : Ev) : ∀ i : Nat, i ≤ 5 → (∀ j : Nat, j < i → (j : Int) ≠ r → 0 ≤ c.get j ∧ c.get j ≤ 1048576) → RS (otS r i) e { e with c := Ev.mix r c e.c i } (Ev.others r c i)
  | 0, _, _ => ⟨rfl, rfl⟩
  | i + 1, hi, h => by
    rw [otS, RS_append]
    refine ⟨_, _, _, seen_go r c e i (by omega) (fun j hj => h j (by omega)), ?_, rfl⟩
    by_cases hr : (i : Int) = r
    · rw [if_pos hr, if_pos hr, Ev.mix, if_pos hr]; exact ⟨rfl, rfl⟩
    · rw [if_neg hr, if_neg hr, Ev.mix, if_neg hr]
      have h1 := h i (by omega) hr
      refine ⟨_, _, [], ⟨(c.get i).toNat, ⟨rfl, by omega, by omega⟩, rfl⟩, ⟨?_, rfl⟩, (List.append_nil _).symm⟩
      simp only [setC, Int.toNat_of_nonneg h1.1]
theorem seen_back (r : Int) (e : Ev) : ∀ i : Nat, i ≤ 5 → ∀ e' bs, RS (otS r i) e e' bs → ∃ c : Ck, (∀ j : Nat, j < i → (j : Int) ≠ r → 0 ≤ c.get j ∧ c.get j ≤ 1048576) ∧ e' = { e with c := Ev.mix r c e.c i } ∧ bs = Ev.others r c i
  | 0, _, e', bs, ⟨h1, h2⟩ => ⟨e.c, fun j hj => absurd hj (by omega), h1, h2⟩
  | i + 1, hi, e', bs, h => by
    rw [otS, RS_append] at h
    obtain ⟨e1, b1, b2, h1, h2, rfl⟩ := h
    obtain ⟨c, hc, rfl, rfl⟩ := seen_back r e i (by omega) e1 b1 h1
    by_cases hr : (i : Int) = r
    · rw [if_pos hr] at h2
      obtain ⟨rfl, rfl⟩ := h2
      refine ⟨c, fun j hj hjr => hc j (by omega) hjr, ?_, ?_⟩
      · rw [Ev.mix, if_pos hr]
      · rw [Ev.others, if_pos hr]
    · rw [if_neg hr] at h2
      obtain ⟨e2, b3, b4, ⟨a, ⟨rfl, a1, a2⟩, rfl⟩, ⟨rfl, rfl⟩, rfl⟩ := h2
      have hg : ∀ j : Nat, j < i → (c.set i (a : Int)).get j = c.get j := fun j hj => by rw [Ck.set_get _ _ _ _ (by omega), if_neg (by omega)]
      have hgi : (c.set i (a : Int)).get i = a := by rw [Ck.set_get _ _ _ _ (by omega), if_pos rfl]
      refine ⟨c.set i (a : Int), fun j hj hjr => ?_, ?_, ?_⟩
      · rcases Nat.lt_succ_iff_lt_or_eq.1 hj with h3 | rfl
        · rw [hg j h3]; exact hc j h3 hjr
        · rw [hgi]; exact ⟨a1, a2⟩
      · rw [Ev.mix, if_neg hr, hgi, Ev.mix_congr r (c' := c) e.c i fun j hj _ => hg j hj]; rfl
      · rw [Ev.others, if_neg hr, hgi, Ev.others_congr r (c' := c) i fun j hj _ => hg j hj, Int.toNat_natCast, List.append_nil]

def seenS : Sp := fun e e' bs => RS (otS e.r 5) { e with c := e.c.set e.r.toNat (e.n - 1) } e' bs
theorem seen_codec : Codec seenF seenS where
  go e e' bs rest h := (row_codec (ots_codecs e.r 5)).go _ e' bs rest h
  short e e' bs n h hn := (row_codec (ots_codecs e.r 5)).short _ e' bs n h hn
  back e xs hx h := (row_codec (ots_codecs e.r 5)).back _ xs hx h
  err e xs hx := (row_codec (ots_codecs e.r 5)).err _ xs hx
def wrS : Sp := RS [leafS (octD 0 1) setL, leafS (wrdD 12 Tx.value) setV]
theorem wr_codec : Codec (row [leaf (octR 0 1) setL, leaf (wrdR 12 Tx.value) setV]) wrS := row_codec ⟨leaf_codec (oct_lc 0 1) _, leaf_codec (wrd_lc 12 Tx.value) _, trivial⟩
def writtenS : Sp := fun e e' bs => if Ev.isW e.k then wrS e e' bs else e' = e ∧ bs = []
theorem written_codec : Codec writtenF writtenS where
  go e e' bs rest h := by
    unfold writtenS at h
    unfold writtenF
    by_cases hk : Ev.isW e.k = true
    · rw [if_pos hk] at h ⊢; exact wr_codec.go e e' bs rest h
    · rw [if_neg hk] at h ⊢; obtain ⟨rfl, rfl⟩ := h; rfl
  short e e' bs n h hn := by
    unfold writtenS at h
    unfold writtenF
    by_cases hk : Ev.isW e.k = true
    · rw [if_pos hk] at h ⊢; exact wr_codec.short e e' bs n h hn
    · rw [if_neg hk] at h; obtain ⟨rfl, rfl⟩ := h; simp at hn
  back e xs hx h := by
    unfold writtenF at h
    unfold writtenF writtenS
    by_cases hk : Ev.isW e.k = true
    · rw [if_pos hk] at h ⊢
      obtain ⟨bs, rest, q1, q2, q3⟩ := wr_codec.back e xs hx h
      exact ⟨bs, rest, q1, q2, by rw [if_pos hk]; exact q3⟩
    · rw [if_neg hk]
      exact ⟨[], xs, rfl, rfl, by rw [if_neg hk]; exact ⟨rfl, rfl⟩⟩
  err e xs hx := by
    unfold writtenF
    split
    · exact wr_codec.err e xs hx
    · left; rfl
def allS : List Sp := [leafS (octD 1 5) setK, leafS (octD 0 4) setR, leafS (numD 1 1048576) setN, seenS, leafS (numD 1 16777216) setH, leafS (wrdD 8 Tx.key) setKey, writtenS]
theorem all_codec : Codec (row all) (RS allS) := row_codec ⟨leaf_codec (oct_lc 1 5) _, leaf_codec (oct_lc 0 4) _, leaf_codec (num_lc 1 1048576 (by decide)) _, seen_codec, leaf_codec (num_lc 1 16777216 (by decide)) _, leaf_codec (wrd_lc 8 Tx.key) _, written_codec, trivial⟩

theorem all_good {e : Ev} (g : Ev.Good e) : RS allS Ev.zero e (Ev.bytes e) := by
  obtain ⟨E1, E5, EK, EB, EF⟩ := Ev.edit_zero g.ed
  have hks := Ev.key_size EK
  obtain ⟨r0, r5, n1, nM, hc, own, h1, hM, -⟩ := g
  obtain ⟨r, n, c, h, k, key, l, v⟩ := e
  simp only [Ev.ed] at E1 E5 EK EB EF hks r0 r5 n1 nM hc own h1 hM
  have ek : ((k.toNat : Nat) : Int) = k := Int.toNat_of_nonneg (by omega)
  have er : ((r.toNat : Nat) : Int) = r := Int.toNat_of_nonneg (by omega)
  have en : ((n.toNat : Nat) : Int) = n := Int.toNat_of_nonneg (by omega)
  have eh : ((h.toNat : Nat) : Int) = h := Int.toNat_of_nonneg (by omega)
  have hmix : Ev.mix r c (Ck.zero.set r.toNat (n - 1)) 5 = c := Ck.ext_get fun j hj => by
    rw [Ev.mix_get _ _ _ _ (Nat.le_refl _) _ hj]
    by_cases hjr : (j : Int) = r
    · rw [if_neg (by omega), Ck.set_get _ _ _ _ hj, if_pos (by omega)]
      have : r.toNat = j := by omega
      rw [this] at own; exact own.symm
    · rw [if_pos ⟨hj, hjr⟩]
  have hs := seen_go r c { Ev.zero with k := k, r := r, n := n, c := Ck.zero.set r.toNat (n - 1) } 5 (Nat.le_refl _) (fun j hj _ => hc j hj)
  simp only at hs
  rw [hmix] at hs
  refine ⟨{ Ev.zero with k := k }, [k.toNat], _, ⟨k.toNat, ⟨rfl, by omega, by omega⟩, by simp only [setK, ek]⟩,
    ⟨{ Ev.zero with k := k, r := r }, [r.toNat], _, ⟨r.toNat, ⟨rfl, by omega, by omega⟩, by simp only [setR, er]⟩,
    ⟨{ Ev.zero with k := k, r := r, n := n }, Pl.put n.toNat, _, ⟨n.toNat, ⟨rfl, by omega, by omega⟩, by simp only [setN, en]⟩,
    ⟨{ Ev.zero with k := k, r := r, n := n, c := c }, Ev.others r c 5, _, hs,
    ⟨{ Ev.zero with k := k, r := r, n := n, c := c, h := h }, Pl.put h.toNat, _, ⟨h.toNat, ⟨rfl, by omega, by omega⟩, by simp only [setH, eh]⟩,
    ⟨{ Ev.zero with k := k, r := r, n := n, c := c, h := h, key := key }, Ev.txt key, _, ⟨key, ⟨rfl, hks.1, by omega, EK⟩, rfl⟩,
    ⟨⟨r, n, c, h, k, key, l, v⟩, Ev.tail ⟨r, n, c, h, k, key, l, v⟩, [], ?_, ⟨rfl, rfl⟩, rfl⟩, rfl⟩, rfl⟩, rfl⟩, rfl⟩, rfl⟩, ?_⟩
  · unfold writtenS Ev.tail
    simp only
    by_cases hk : Ev.isW k = true
    · rw [if_pos hk, if_pos hk]
      have hf := EF (Ev.isW_true k hk)
      have el : ((l.toNat : Nat) : Int) = l := Int.toNat_of_nonneg (by omega)
      refine ⟨{ Ev.zero with k := k, r := r, n := n, c := c, h := h, key := key, l := l }, [l.toNat], _, ⟨l.toNat, ⟨rfl, by omega, by omega⟩, by simp only [setL, el]⟩,
        ⟨⟨r, n, c, h, k, key, l, v⟩, Ev.txt v, [], ⟨v, ⟨rfl, hf.2.1, by omega, ?_⟩, rfl⟩, ⟨rfl, rfl⟩, rfl⟩, by simp⟩
      rw [Tx.value, if_pos hf.2]
    · rw [if_neg hk, if_neg hk]
      have hb := EB (Ev.isW_false k (by simpa using hk))
      obtain ⟨rfl, hv⟩ := hb
      have hv' : v = ⟨#[]⟩ := by
        apply ByteArray.ext
        exact Array.eq_empty_of_size_eq_zero hv
      subst hv'
      exact ⟨rfl, rfl⟩
  · simp [Ev.bytes]

theorem all_of {e : Ev} {bs : List Nat} (hs : RS allS Ev.zero e bs) : Ev.Good e ∧ bs = Ev.bytes e := by
  obtain ⟨_, _, _, ⟨k, ⟨rfl, k1, k5⟩, rfl⟩, ⟨_, _, _, ⟨r, ⟨rfl, r0, r4⟩, rfl⟩, ⟨_, _, _, ⟨n, ⟨rfl, n1, nM⟩, rfl⟩, ⟨_, _, _, hseen, ⟨_, _, _, ⟨h, ⟨rfl, h1, hM⟩, rfl⟩, ⟨_, _, _, ⟨key, ⟨rfl, s1, s8, hkey⟩, rfl⟩, ⟨_, _, _, hwr, ⟨rfl, rfl⟩, rfl⟩, rfl⟩, rfl⟩, rfl⟩, rfl⟩, rfl⟩, rfl⟩ := hs
  obtain ⟨c0, hc0, rfl, rfl⟩ := seen_back _ _ 5 (Nat.le_refl _) _ _ hseen
  clear hseen
  simp only [setK, setR, setN, setH, setKey, Ev.zero, Int.toNat_natCast] at *
  generalize hc : Ev.mix (r : Int) c0 (Ck.zero.set r ((n : Int) - 1)) 5 = c at *
  have hget : ∀ j : Nat, j < 5 → c.get j = if (j : Int) = r then (n : Int) - 1 else c0.get j := fun j hj => by
    rw [← hc, Ev.mix_get _ _ _ _ (Nat.le_refl _) _ hj]
    by_cases hjr : (j : Int) = r
    · rw [if_neg (by omega), if_pos hjr, Ck.set_get _ _ _ _ hj, if_pos (by omega)]
    · rw [if_pos ⟨hj, hjr⟩, if_neg hjr]
  have hoth : Ev.others (r : Int) c0 5 = Ev.others (r : Int) c 5 := Ev.others_congr _ 5 fun j hj hjr => by rw [hget j hj, if_neg hjr]
  have hcb : ∀ j : Nat, j < 5 → 0 ≤ c.get j ∧ c.get j ≤ 1048576 := fun j hj => by
    rw [hget j hj]
    split
    · omega
    · rename_i hjr; exact hc0 j hj hjr
  have hown : c.get r = (n : Int) - 1 := by rw [hget r (by omega), if_pos rfl]
  unfold writtenS at hwr
  simp only at hwr
  by_cases hk : Ev.isW (k : Int) = true
  · rw [if_pos hk] at hwr
    obtain ⟨_, _, _, ⟨l, ⟨rfl, l0, l1⟩, rfl⟩, ⟨_, _, _, ⟨v, ⟨rfl, v1, vM, hv⟩, rfl⟩, ⟨rfl, rfl⟩, rfl⟩, rfl⟩ := hwr
    simp only [setL, setV]
    refine ⟨⟨r0, by simp only; omega, n1, nM, hcb, by simpa using hown, h1, hM, Ev.edit_of k1 k5 hkey (fun h => absurd h (Ev.isW_true _ hk)) (fun _ => ⟨by simp only [Ev.ed]; omega, v1, by simp only [Ev.ed]; omega⟩)⟩, ?_⟩
    simp [Ev.bytes, Ev.tail, hk, hoth]
  · rw [if_neg hk] at hwr
    obtain ⟨rfl, rfl⟩ := hwr
    refine ⟨⟨r0, by simp only; omega, n1, nM, hcb, by simpa using hown, h1, hM, Ev.edit_of k1 k5 hkey (fun _ => ⟨rfl, rfl⟩) (fun h => absurd (Ev.isW_false _ (show Ev.isW (k : Int) = false by simpa using hk)) h)⟩, ?_⟩
    simp [Ev.bytes, Ev.tail, hk, hoth]

/-- What was put is taken, whatever stands behind it. -/
theorem take_bytes {e : Ev} (g : Ev.Good e) (rest : List Nat) : takeF (Ev.bytes e ++ rest) = (e, (Ev.bytes e).length, 0) := by
  unfold takeF
  rw [all_codec.go _ _ _ rest (all_good g), if_pos rfl]
/-- A beginning of it is too short. -/
theorem take_short {e : Ev} (g : Ev.Good e) {n : Nat} (hn : n < (Ev.bytes e).length) : takeF ((Ev.bytes e).take n) = (Ev.zero, 0, 2) := by
  unfold takeF
  have := all_codec.short _ _ _ n (all_good g) hn
  rw [this, if_neg (by simp)]
/-- What is taken are that event's bytes. -/
theorem take_of {xs : List Nat} (hx : Bts xs) (h : (takeF xs).2.2 = 0) : Ev.Good (takeF xs).1 ∧ (takeF xs).2.1 ≤ xs.length ∧ (takeF xs).2.1 = (Ev.bytes (takeF xs).1).length ∧ xs.take (takeF xs).2.1 = Ev.bytes (takeF xs).1 := by
  unfold takeF at h ⊢
  by_cases h0 : (row all Ev.zero xs).2.2 = 0
  · rw [if_pos h0]
    obtain ⟨bs, rest, q1, q2, q3⟩ := all_codec.back _ xs hx h0
    obtain ⟨g, e⟩ := all_of q3
    subst e
    refine ⟨g, ?_, q2, ?_⟩
    · rw [q2, congrArg List.length q1, List.length_append]; omega
    · rw [q2]
      exact (congrArg (List.take _) q1).trans List.take_left
  · rw [if_neg h0] at h; exact absurd h h0
theorem take_bad {xs : List Nat} (hx : Bts xs) (h : (takeF xs).2.2 ≠ 0) : takeF xs = (Ev.zero, 0, 2) ∨ takeF xs = (Ev.zero, 0, 3) := by
  unfold takeF at h ⊢
  by_cases h0 : (row all Ev.zero xs).2.2 = 0
  · rw [if_pos h0] at h; exact absurd h0 h
  · rw [if_neg h0]
    rcases all_codec.err Ev.zero xs hx with h1 | h1 | h1
    · exact absurd h1 h0
    · left; rw [h1]
    · right; rw [h1]
end Fl
namespace Ev
theorem others_le {r : Int} {c : Ck} (h : ∀ j, j < 5 → 0 ≤ c.get j ∧ c.get j ≤ 1048576) : ∀ i : Nat, i ≤ 5 → (others r c i).length ≤ 3 * i ∧ (r < i → 0 ≤ r → (others r c i).length ≤ 3 * (i - 1))
  | 0, _ => ⟨Nat.le_refl _, fun h1 h2 => by omega⟩
  | i + 1, hi => by
    obtain ⟨h1, h2⟩ := others_le (r := r) h i (by omega)
    have h3 := h i (by omega)
    have h4 := Pl.put_short (n := (c.get i).toNat) (k := 3) (by omega) (by omega) (by simp; omega)
    rw [others, List.length_append]
    by_cases hr : (i : Int) = r
    · rw [if_pos hr]; simp; omega
    · rw [if_neg hr]
      exact ⟨by omega, fun h5 h6 => by have := h2 (by omega) h6; omega⟩
theorem bytes_len {e : Ev} (g : Good e) : (bytes e).length ≤ 44 := by
  obtain ⟨E1, E5, EK, EB, EF⟩ := edit_zero g.ed
  have hks := key_size EK
  have h1 := Pl.put_short (n := e.n.toNat) (k := 3) (by have := g.nM; omega) (by omega) (by have := g.nM; simp; omega)
  have h2 := Pl.put_short (n := e.h.toNat) (k := 4) (by have := g.hM; omega) (by omega) (by have := g.hM; simp; omega)
  have h3 := (others_le (r := e.r) g.c 5 (Nat.le_refl _)).2 g.r5 g.r0
  have h4 : (tail e).length ≤ 14 := by
    unfold tail
    by_cases hk : isW e.k = true
    · rw [if_pos hk]
      have := (EF (isW_true _ hk)).2.2
      simp only [Ev.ed] at this
      simp only [txt, List.length_cons, raw_len]; omega
    · rw [if_neg hk]; simp
  have h5 : (txt e.key).length ≤ 9 := by simp only [txt, List.length_cons, raw_len]; have := hks.2; simp only [Ev.ed] at this; omega
  unfold bytes
  simp only [List.length_append, List.length_cons, List.length_nil]
  omega
theorem bytes_lt {e : Ev} (g : Good e) : Bts (bytes e) := by
  obtain ⟨E1, E5, EK, EB, EF⟩ := edit_zero g.ed
  have hks := key_size EK
  have htx : ∀ s : ByteArray, s.size < 256 → Bts (txt s) := fun s hs x hx => by
    rcases List.mem_cons.1 hx with rfl | hx
    · exact hs
    · exact raw_lt s x hx
  have ho : ∀ i : Nat, i ≤ 5 → Bts (others e.r e.c i) := fun i => by
    induction i with
    | zero => intro _ x hx; cases hx
    | succ i ih =>
      intro hi x hx
      rw [others, List.mem_append] at hx
      rcases hx with hx | hx
      · exact ih (by omega) x hx
      · split at hx
        · cases hx
        · have := g.c i (by omega)
          exact Pl.put_lt (by omega) x hx
  simp only [Ev.ed] at E1 E5 EF hks
  intro x hx
  unfold bytes tail at hx
  simp only [List.mem_append, List.mem_cons, List.not_mem_nil, or_false] at hx
  have a1 := g.r0; have a2 := g.r5; have a3 := g.nM; have a4 := g.hM
  rcases hx with ((((hx | hx) | hx) | hx) | hx) | hx
  · rcases hx with rfl | rfl <;> omega
  · exact Pl.put_lt (by omega) x hx
  · exact ho 5 (Nat.le_refl _) x hx
  · exact Pl.put_lt (by omega) x hx
  · exact htx e.key (by omega) x hx
  · split at hx
    · rename_i hk
      have hf := EF (isW_true _ hk)
      rcases List.mem_cons.1 hx with rfl | hx
      · omega
      · exact htx e.v (by omega) x hx
    · cases hx
theorem out_good {e : Ev} (g : Good e) : out e = bytes e := by unfold out; rw [if_pos ((good_iff e).2 g)]
/-- No event's bytes are the beginning of another one's. -/
theorem bytes_apart {x y : Ev} (gx : Good x) (gy : Good y) : ((bytes x).take (min (bytes x).length (bytes y).length) = (bytes y).take (min (bytes x).length (bytes y).length)) ↔ x = y := by
  constructor
  · intro h
    rcases Nat.le_total (bytes x).length (bytes y).length with hl | hl
    · rw [Nat.min_eq_left hl, List.take_length] at h
      have h1 : bytes y = bytes x ++ (bytes y).drop (bytes x).length := by
        conv => rhs; rw [h]
        rw [List.length_take, Nat.min_eq_left hl, List.take_append_drop]
      have h2 := Fl.take_bytes gx ((bytes y).drop (bytes x).length)
      have h3 := Fl.take_bytes gy []
      rw [List.append_nil, h1, h2] at h3
      exact congrArg Prod.fst h3
    · rw [Nat.min_eq_right hl, List.take_length] at h
      have h1 : bytes x = bytes y ++ (bytes x).drop (bytes y).length := by
        conv => rhs; rw [← h]
        rw [List.length_take, Nat.min_eq_left hl, List.take_append_drop]
      have h2 := Fl.take_bytes gy ((bytes x).drop (bytes y).length)
      have h3 := Fl.take_bytes gx []
      rw [List.append_nil, h1, h2] at h3
      exact (congrArg Prod.fst h3).symm
  · rintro rfl; rfl
end Ev
end Go.Proofs.Ythgfbnkggdlokaa
