/-
  The walk of TextKeys.
-/
import Derived.Test.YtalabjbnbinphaaLaws5A
import Derived.Test.YtalabjbnbinphaaApp
import Derived.Lib.MinMax
import Derived.Laws.Concat
import Derived.Lib.SmallJoins
import Derived.Deep.DeepCutAuto
namespace Go.Proofs.Ytalabjbnbinphaa
open Go.RowKit
namespace Tx
theorem at_str {ts : List Nat} (h : ∀ x ∈ ts, x < 256) {j : Nat} (hj : j < ts.length) : at_ (str ts) j = Pl.nth ts j := by
  have hs : j < (str ts).size := by rw [str_size]; exact hj
  rw [<- get_at_ _ _ hs]
  have e : (str ts)[j]'hs = (str ts).data.toList[j]'(by rw [Array.length_toList]; exact hs) := by rw [Array.getElem_toList]; rfl
  rw [e]
  have hd : (str ts).data.toList = ts.map fun x => UInt8.ofNat x := by
    rw [str, strOfNums_data, List.map_map]
    rfl
  simp only [hd, List.getElem_map, Pl.nth, List.getD_eq_getElem?_getD, List.getElem?_eq_getElem hj, Option.getD_some]
  have := h _ (List.getElem_mem hj)
  simp
  omega
def Lets (ts : List Nat) (k : Nat) : Prop := ∀ j, j < k → 97 ≤ Pl.nth ts j ∧ Pl.nth ts j ≤ 122
theorem key_str {ts : List Nat} (h : ∀ x ∈ ts, x < 256) (h1 : 1 ≤ ts.length) (h8 : ts.length ≤ 8) (hL : Lets ts ts.length) : key (str ts) = 0 := by
  refine key_good (by rw [str_size]; exact h1) (by rw [str_size]; exact h8) ?_
  rw [allTo_iff, str_size]
  intro j hj
  rw [at_str h hj]
  exact hL j hj
theorem key_str_bad {ts : List Nat} (h : ∀ x ∈ ts, x < 256) {j : Nat} (hj : j < ts.length) (hb : Pl.nth ts j < 97 ∨ 122 < Pl.nth ts j) : key (str ts) = 10 :=
  key_bad (j := j) (by rw [str_size]; exact hj) (by rw [at_str h hj]; exact hb)
def abc : ByteArray := ⟨#[97, 98, 99, 100, 101, 102, 103, 104]⟩
theorem abc_more {ts : List Nat} (h : 1 ≤ ts.length) : key (abc ++ str ts) = 10 := by
  refine key_len (.inr ?_)
  rw [ByteArray.size_append, str_size]
  have : abc.size = 8 := by decide
  omega
theorem abc_none : key (abc ++ str []) = 0 := by decide
theorem nth_set {ts : List Nat} {i : Nat} (hi : i < ts.length) (x j : Nat) : Pl.nth (ts.set i x) j = if j = i then x else Pl.nth ts j := by
  unfold Pl.nth
  simp only [List.getD_eq_getElem?_getD, List.getElem?_set]
  by_cases h : i = j
  · subst h; simp [hi]
  · rw [if_neg h, if_neg (by omega)]
end Tx

def KeysRel (g m c : Nat) (B : Nat) (w : World) (v : Value) (W : World) : Prop :=
  ∃ (i : Nat) (ts : List Nat), i ≤ m ∧ v = .int .i64 i ∧ ts.length = m ∧ (∀ x ∈ ts, x < 256) ∧ Tx.Lets ts i ∧ W.ownsRow B 5 1 (.slice (some ⟨g, 0, none⟩) m c) m (ts.map bv) ∧ Below w.heap.size w W

set_option maxRecDepth 100000 in
set_option maxHeartbeats 1600000 in
theorem law_keys (A : Option Addr) (n cap : Nat) (xs : List Nat) (odd at_ : Nat) (w : World) (hs : Slc w A n cap xs) (ho : odd < 256) (ha : at_ < 256) :
    Calls Try.prog 4 #[.slice A n cap, .int .u8 odd, .int .u8 at_] w fun e w' => e = .returned (.bool true) ∧ Below w.heap.size w w' := by
  have C0 := Lib.hid (fun w => shown_any w)
  have CK := Lib.hid (fun s w => key_any s w)
  obtain ⟨m, hm⟩ : ∃ m, min n 8 = m := ⟨_, rfl⟩
  have hmin : min (n : Int) 8 = (m : Int) := by omega
  have m8 : m ≤ 8 := by omega
  have S := Lib.hid (hs.take_ (u := m) (by omega))
  have hcap := hs.2.1
  have hmc : m ≤ cap := by omega
  clear hs hcap hm
  generalize xs.take m = ys at *
  go_enter Try.func4, Try.ntmps4
  go_wp2_with fail
  refine (C0.out _).mono ?_
  rintro e w1 ⟨rfl, hb1⟩
  have S1 := Lib.hid ((S.out.below hb1).below ((Below.refl w1.heap.size w1).alloc (Nat.le_refl _) (.cells #[] 5)))
  have HB := Lib.hid hb1
  have hz1 := hb1.size
  clear hb1 S
  have O0 := Lib.hid (World.ownsRow_made (base := w1.heap.size) (e := 5) (size := 1) w1 #[] 0 (Nat.le_refl _) (Nat.zero_le _) rfl)
  go_wp2_with (at_builtin; refine wpList_append_slc rfl _ _ rfl w1.heap.size (.slice (some ⟨w1.heap.size, 0, none⟩) 0 0) 0 [] rfl O0.out A m cap ys rfl S1.out (by omega) (by simp) ?_)
  intro v4 w4 hown4 hg4
  have O4 := Lib.hid (show w4.ownsRow w1.heap.size 5 1 v4 m (ys.map bv) by simpa using hown4)
  have B4 := Lib.hid (HB.out.trans ((((Below.refl w1.heap.size w1).alloc (Nat.le_refl _) (.cells #[] 5)).grown hg4 (by simp) (fun k hk => by simp [Value.ownBlock] at hk; omega)).mono hz1))
  have YL := Lib.hid S1.out.1
  have YX := Lib.hid (Pl.lt_of_nth S1.out.2.2.2.1)
  clear hown4 hg4 S1 O0 HB hmin hmc
  rcases Nat.eq_zero_or_pos m with h0 | h0
  · subst h0
    obtain rfl : ys = [] := List.eq_nil_of_length_eq_zero YL.out
    obtain ⟨A4, c4, rfl, s4⟩ := slc_of_own2 O4.out (by simp)
    have hc4 := s4.2.2.1
    have S4 := Lib.hid s4
    have E1 := Lib.hid (show Tx.key (str []) = 10 by decide)
    have E2 := Lib.hid Tx.abc_none
    have hadd : ∀ w : World, (Op.stringOp .add Tx.abc (str [])).run Try.prog w = .ok (.string (Tx.abc ++ str [])) w := fun w => run_string_add_sum w _ _ (by rw [str_size]; decide)
    have CV := Lib.hid (fun w (h : Slc w A4 0 c4 []) => conv_slc h)
    generalize str [] = s at *
    unfold Tx.abc at *
    generalize (ByteArray.mk #[97, 98, 99, 100, 101, 102, 103, 104]) ++ s = u at *
    have cv := CV.out _ s4
    clear s4 O4
    go_wp2
    go_loopw [9] (fun v W => v = .int .i64 0 ∧ W = w4) (fun _ _ => 0)
    case atStart => exact ⟨rfl, rfl⟩
    case round =>
      obtain ⟨rfl, rfl⟩ := hrel
      go_wp2_with fail
      refine (CK.out s _).mono ?_
      rintro e w5 ⟨rfl, hb5⟩
      rw [E1.out]
      have cv5 := CV.out _ (S4.out.below hb5)
      have B5 := Lib.hid (B4.out.trans (hb5.mono B4.out.size))
      clear hb5
      go_wp2_with fail
      refine (CK.out u _).mono ?_
      rintro e w6 ⟨rfl, hb6⟩
      rw [E2.out]
      have B6 := Lib.hid (B5.out.trans (hb6.mono B5.out.size))
      clear hb6
      go_wp2
      go_ret
      exact ⟨rfl, B6.out⟩
  · obtain ⟨g, c4, rfl⟩ := Joins.ownsRow_form O4.out (by omega)
    have hc4 : m ≤ c4 ∧ c4 ≤ 9223372036854775807 := by
      obtain ⟨_, _, e, h⟩ := slc_of_own2 O4.out YX.out
      simp only [Value.slice.injEq] at e
      obtain ⟨_, _, rfl⟩ := e
      exact ⟨h.2.1, h.2.2.1⟩
    obtain ⟨hc1, hc2⟩ := hc4
    go_wp2
    go_loopw [9] (fun v W => KeysRel g m c4 w1.heap.size w v W) (fun v _ => m - (intOf v).toNat)
    case atStart => exact ⟨0, ys, by omega, rfl, YL.out, YX.out, fun j hj => by omega, O4.out, B4.out⟩
    case round =>
      clear YL YX O4 B4
      obtain ⟨i, ts, hi, rfl, hl, ht, hL, hown, hb⟩ := hrel
      by_cases hlt : i < m
      · have jc : i < ts.length := by omega
        have e1 := hown.cellAt i (by omega)
        have e1' : wr.cell? ⟨g, i, none⟩ = some (.int .u8 (Pl.nth ts i)) := by rw [e1]; simp [Pl.nth, jc, bv]
        have f1 := hown.frozenAt i
        have x1 : Pl.nth ts i < 256 := by have := ht _ (List.getElem_mem jc); simpa [Pl.nth, jc] using this
        have HO := Lib.hid hown; have HT := Lib.hid ht; have HL := Lib.hid hL; have HB := Lib.hid hb; have LN := Lib.hid hl; have JC := Lib.hid jc
        clear hown ht hL hb hl jc e1
        obtain ⟨c, hc⟩ : ∃ c, Pl.nth ts i = c := ⟨_, rfl⟩
        rw [hc] at e1' x1
        clear hc
        go_wp2
        go_roundw
        case rel =>
          have hst := HO.out.stored i (bv (97 + c % 26))
          rw [<- List.map_set] at hst
          refine ⟨i + 1, ts.set i (97 + c % 26), hlt, by go_num, by rw [List.length_set]; exact LN.out, ?_, ?_, hst.1, HB.out.setCell (p := ⟨g, i, none⟩) (Nat.le_trans hz1 (HO.out.lt g rfl).1) _⟩
          · intro x hx
            rcases List.mem_or_eq_of_mem_set hx with h | rfl
            · exact HT.out x h
            · omega
          · intro j hj
            rw [Tx.nth_set JC.out]
            by_cases h : j = i
            · rw [if_pos h]; omega
            · rw [if_neg h]; exact HL.out j (by omega)
        case measure => simp [intOf]; omega
      · obtain rfl : i = m := by omega
        have E1 := Lib.hid (Tx.key_str ht (by omega) (by omega) (by rw [hl]; exact hL))
        have E2 := Lib.hid (Tx.abc_more (ts := ts) (by omega))
        have hadd : ∀ w : World, (Op.stringOp .add Tx.abc (str ts)).run Try.prog w = .ok (.string (Tx.abc ++ str ts)) w := fun w => run_string_add_sum w _ _ (by rw [str_size, hl, show Tx.abc.size = 8 by decide]; omega)
        have St := Lib.hid (by have := slc_of_own (xs := ts) (cap := c4) (A := some ⟨g, 0, none⟩) (by rw [hl]; exact hown) ht; rw [hl] at this; exact this)
        have CV := Lib.hid (fun w (h : Slc w (some ⟨g, 0, none⟩) i c4 ts) => conv_slc h)
        have HO := Lib.hid hown; have HT := Lib.hid ht; have HL := Lib.hid hL; have HB := Lib.hid hb; have LN := Lib.hid hl
        clear hown ht hL hb hl hlt hi
        generalize str ts = s at *
        unfold Tx.abc at *
        generalize (ByteArray.mk #[97, 98, 99, 100, 101, 102, 103, 104]) ++ s = u at *
        have cv := CV.out _ St.out
        have d0 : ((i : Int) == 0) = false := by simp; omega
        go_wp2_with fail
        refine (CK.out s _).mono ?_
        rintro e w5 ⟨rfl, hb5⟩
        rw [E1.out]
        have S5 := Lib.hid (St.out.below hb5)
        have cv5 := CV.out _ S5.out
        have B5 := Lib.hid (HB.out.trans (hb5.mono HB.out.size))
        have HB5 := Lib.hid hb5
        clear hb5 cv
        go_wp2_with fail
        refine (CK.out u _).mono ?_
        rintro e w6 ⟨rfl, hb6⟩
        rw [E2.out]
        have B6 := Lib.hid (B5.out.trans (hb6.mono B5.out.size))
        have O6 := Lib.hid (own_up HO.out (HB5.out.trans (hb6.mono HB5.out.size)))
        clear hb6 cv5 hadd St S5 HB HB5 B5 HO
        obtain ⟨j, hj⟩ : ∃ j, at_ % i = j := ⟨_, rfl⟩
        have hji : j < i := by rw [<- hj]; exact Nat.mod_lt _ h0
        have gj : (at_ : Int).tmod (i : Int) = (j : Int) := by rw [Int.tmod_eq_emod_of_nonneg (by omega), <- hj]; simp
        have jc : j < ts.length := by rw [LN.out]; exact hji
        have e1 := O6.out.cellAt j (by omega)
        have e1' : w6.cell? ⟨g, j, none⟩ = some (.int .u8 (Pl.nth ts j)) := by rw [e1]; simp [Pl.nth, jc, bv]
        have f1 := O6.out.frozenAt j
        have hst := O6.out.stored j (bv odd)
        rw [<- List.map_set] at hst
        have hg1 := (O6.out.lt g rfl).1
        have hx : ∀ x ∈ ts.set j odd, x < 256 := fun x hx => by
          rcases List.mem_or_eq_of_mem_set hx with h | rfl
          · exact HT.out x h
          · exact ho
        have s7 := slc_of_own (xs := ts.set j odd) (cap := c4) (A := some ⟨g, 0, none⟩) (by rw [List.length_set, LN.out]; exact hst.1) hx
        rw [List.length_set, LN.out] at s7
        have cv7 := conv_slc s7
        have B7 := Lib.hid (B6.out.setCell (p := ⟨g, j, none⟩) (Nat.le_trans hz1 hg1) (bv odd))
        have key7 : Tx.key (str (ts.set j odd)) = if 97 ≤ odd ∧ odd ≤ 122 then 0 else 10 := by
          by_cases h : 97 ≤ odd ∧ odd ≤ 122
          · rw [if_pos h]
            refine Tx.key_str hx (by rw [List.length_set]; omega) (by rw [List.length_set, LN.out]; exact m8) ?_
            rw [List.length_set, LN.out]
            intro q hq
            rw [Tx.nth_set jc]
            by_cases e : q = j
            · rw [if_pos e]; exact h
            · rw [if_neg e]; exact HL.out q hq
          · rw [if_neg h]
            refine Tx.key_str_bad hx (j := j) (by rw [List.length_set]; exact jc) ?_
            rw [Tx.nth_set jc, if_pos rfl]; omega
        have K7 := Lib.hid key7
        generalize str (ts.set j odd) = z at *
        unfold bv at cv7 B7
        clear key7 s7 hx hst e1 hj jc O6 B6 HT HL E1 E2 CV LN
        go_wp2_with fail
        refine (CK.out z _).mono ?_
        rintro e w8 ⟨rfl, hb8⟩
        rw [K7.out]
        have B8 := Lib.hid (B7.out.trans (hb8.mono B7.out.size))
        clear hb8
        by_cases h1 : 97 ≤ odd
        · by_cases h2 : odd ≤ 122
          · rw [if_pos ⟨h1, h2⟩]
            go_wp2
            go_ret
            exact ⟨by simp; omega, B8.out⟩
          · rw [if_neg (by omega)]
            go_wp2
            go_ret
            exact ⟨by simp; omega, B8.out⟩
        · rw [if_neg (by omega)]
          go_wp2
          go_ret
          exact ⟨by simp, B8.out⟩
end Go.Proofs.Ytalabjbnbinphaa
