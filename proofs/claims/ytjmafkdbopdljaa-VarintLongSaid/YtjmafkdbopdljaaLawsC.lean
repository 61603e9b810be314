/-
  The walk of VarintLong.
-/
import Derived.Test.YtjmafkdbopdljaaLawsA
import Derived.Deep.AppendLies
namespace Go.Proofs.Ytjmafkdbopdljaa
open Go.RowKit

theorem nth_replicate (m c j : Nat) (h : j < m) : Pl.nth (List.replicate m c) j = c := by simp [Pl.nth, h]
theorem take_allOn {xs : List Nat} (h : ∀ j, j < xs.length → ¬ Pl.nth xs j < 128) : Pl.take xs = (0, 0, if xs.length < 10 then 2 else 3) := by
  have hv := Pl.vlen_none xs (fun j _ h2 => h j h2)
  unfold Pl.take
  rw [if_pos hv]
theorem take_goneOn {xs : List Nat} (h0 : 0 < xs.length) (h10 : xs.length ≤ 10) (h : ∀ j, j < xs.length → ¬ Pl.nth xs j < 128) : Pl.take (xs ++ [0]) = (0, 0, 3) := by
  have hn : ∀ j, j < xs.length → Pl.nth (xs ++ [0]) j = Pl.nth xs j := fun j hj => by simp [Pl.nth, List.getD_eq_getElem?_getD, List.getElem?_append_left hj]
  have hz : Pl.nth (xs ++ [0]) xs.length = 0 := by simp [Pl.nth]
  rcases Nat.lt_or_ge xs.length 10 with hl | hl
  · have hv := Pl.vlen_some (xs ++ [0]) xs.length hl (by simp) (fun j hj => by rw [hn j hj]; exact h j hj) (by rw [hz]; omega)
    have ht : (xs ++ [0]).take (xs.length + 1) = xs ++ [0] := List.take_of_length_le (by simp)
    have hne : Pl.vlen (xs ++ [0]) ≠ 0 := by rw [hv]; omega
    unfold Pl.take
    rw [if_neg hne, if_neg]
    rw [hv, ht]
    unfold Pl.lastOk
    rw [List.length_append, List.length_singleton, Nat.add_sub_cancel, hz, if_pos rfl]
    intro hh
    have := of_decide_eq_true hh
    omega
  · have hv := Pl.vlen_none (xs ++ [0]) (fun j h1 _ => by rw [hn j (by omega)]; exact h j (by omega))
    unfold Pl.take
    rw [if_pos hv, if_neg (by simp; omega)]

def FillRel (w1 : World) (m d : Nat) (i : Value) (wr : World) : Prop :=
  ∃ k : Nat, k ≤ m ∧ i = .int .i64 k ∧ wr.ownsRow w1.heap.size 5 1 (.slice (some ⟨w1.heap.size, 0, none⟩) m m) m ((List.replicate k d ++ List.replicate (m - k) 0).map bv) ∧ Below w1.heap.size w1 wr

theorem fill_step (m d k : Nat) (hk : k < m) : ((List.replicate k d ++ List.replicate (m - k) 0).map bv).set k (bv d) = (List.replicate (k + 1) d ++ List.replicate (m - (k + 1)) 0).map bv := by
  rw [← List.map_set]
  congr 1
  obtain ⟨r, hr⟩ : ∃ r, m - k = r + 1 := ⟨m - k - 1, by omega⟩
  rw [hr, show m - (k + 1) = r by omega, List.set_append_right _ _ (by simp)]
  have e : List.replicate (k + 1) d = List.replicate k d ++ [d] := List.replicate_succ'
  rw [e]
  simp [List.replicate_succ]

theorem fill_at (m d k : Nat) (hk : k < m) : ((List.replicate k d ++ List.replicate (m - k) 0).map bv)[k]? = some (.int .u8 0) := by
  obtain ⟨r, hr⟩ : ∃ r, m - k = r + 1 := ⟨m - k - 1, by omega⟩
  rw [hr]
  simp [bv, List.replicate_succ]

set_option maxRecDepth 100000 in
set_option maxHeartbeats 800000 in
theorem law_long (a many c : Nat) (w : World) (ha : a < 18446744073709551616) (hmany : many < 256) (hcc : c < 256) :
    Calls Try.prog 8 #[.int .u64 a, .int .u8 many, .int .u8 c] w fun e w' => e = .returned (.bool true) ∧ Below w.heap.size w w' := by
  obtain ⟨i0, hi, hz0, hz1, hzb⟩ := info_parts info5
  obtain ⟨m, hm⟩ : ∃ m, many % 16 = m := ⟨_, rfl⟩
  obtain ⟨d, hd⟩ : ∃ d, c ||| 128 = d := ⟨_, rfl⟩
  have d1 : d < 256 := by rw [← hd]; exact Nat.or_lt_two_pow (n := 8) hcc (by omega)
  have d2 : 128 ≤ d := by rw [← hd]; exact Nat.right_le_or
  have hdi : bits BinOp.or IntKind.u8 (c : Int) 128 = (d : Int) := by
    have := u8_or_nat c 128 hcc (by omega)
    rw [hd] at this; exact this
  obtain ⟨l0, l1, l2, _, _⟩ := Pl.form_at _ (Pl.form_put ha)
  have l10 := (Pl.form_len ha).1
  have C1 := Lib.hid (shown_any w)
  have C2 := Lib.hid (fun w => put_any a w ha)
  have PL := Lib.hid (Pl.put_lt ha)
  generalize Pl.put a = p at *
  have L1 := Lib.hid l1; clear l1
  have HM := Lib.hid hm
  have hm16 : m < 16 := by omega
  have hmi : (many : Int) % 16 = (m : Int) := by omega
  clear hd ha hm
  go_enter Try.func8, Try.ntmps8
  go_wp2_with fail
  refine C1.out.mono ?_
  rintro e w1 ⟨rfl, hb1⟩
  have HB1 := Lib.hid hb1; clear hb1
  have HI := Lib.hid hi; clear hi
  go_wp2_with (at_make; refine wpList_make_full _ rfl _ _ 23 rfl w1.heap.size 5 i0 (.int .u8 0) 1 Try.underlying23 HI.out hz0 hz1 .i64 .i64 _ _ m rfl rfl ?c1 ?c2 ?c3 ?c4 ?c5 ?_)
  case c1 => exact hmi
  case c2 => exact hmi
  case c3 => rw [hzb]; omega
  case c4 => simp only [maxLen]; omega
  case c5 => exact Nat.le_refl _
  intro w2 hown hgrow
  have h0 : w2.ownsRow w1.heap.size 5 1 (.slice (some ⟨w1.heap.size, 0, none⟩) m m) m ((List.replicate 0 d ++ List.replicate (m - 0) 0).map bv) := by
    have e : (madeCells #[Value.int IntKind.u8 0] m).toList = (List.replicate 0 d ++ List.replicate (m - 0) 0).map bv := by
      rw [toList_madeCells_one]; simp [bv]
    rwa [e] at hown
  have H0 := Lib.hid h0
  have HB2 := Lib.hid ((Below.refl w1.heap.size w1).grown hgrow (Nat.le_refl _) (fun k hk => by cases hk))
  clear hown hgrow h0
  go_wp2
  go_loopw [9] (fun i wr => FillRel w1 m d i wr) (fun i _ => m - (intOf i).toNat)
  case atStart => exact ⟨0, Nat.zero_le _, rfl, H0.out, HB2.out⟩
  case round =>
    obtain ⟨k, hk, rfl, hown, hb⟩ := hrel
    by_cases hkm : k < m
    · have hst := hown.stored k (bv d)
      rw [fill_step m d k hkm] at hst
      have hc1 := hown.cellAt k (by omega)
      have hc2 : wr.cell? ⟨w1.heap.size, k, none⟩ = some (.int .u8 0) := by
        rw [hc1, fill_at m d k hkm]
      have hf := hown.frozenAt k
      have HST := Lib.hid hst
      have HB := Lib.hid hb
      clear hst hc1 hown hb
      go_wp2
      go_roundw
      case rel => exact ⟨k + 1, by omega, by go_num, HST.out.1, HB.out.setCell (Nat.le_refl _) _⟩
      case measure => simp [intOf]; omega
    · obtain rfl : k = m := by omega
      have hrep : List.replicate k d ++ List.replicate (k - k) 0 = List.replicate k d := by simp
      rw [hrep] at hown
      have s1 : Slc wr (some ⟨w1.heap.size, 0, none⟩) k k (List.replicate k d) := by
        have hl : (List.replicate k d).length = k := by simp
        have := slc_of_own (xs := List.replicate k d) (cap := k) (A := some ⟨w1.heap.size, 0, none⟩) (w := wr) (B := w1.heap.size) (by rw [hl]; exact hown) (fun x hx => by rw [List.eq_of_mem_replicate hx]; exact d1)
        rwa [hl] at this
      have c3 := take_any _ k k _ wr s1
      rw [take_allOn (fun j hj => by rw [nth_replicate _ _ _ (by simpa using hj)]; omega), List.length_replicate] at c3
      have C3 := Lib.hid c3
      have HB := Lib.hid (HB1.out.trans (hb.mono HB1.out.size))
      clear c3 s1 hown hb hrep HB1 HB2 H0
      obtain ⟨z, hz⟩ : ∃ z, Pl.nth p (p.length - 1) ||| 128 = z := ⟨_, rfl⟩
      have hzi : bits BinOp.or IntKind.u8 (Pl.nth p (p.length - 1) : Int) 128 = (z : Int) := by
        have := u8_or_nat (Pl.nth p (p.length - 1)) 128 (by omega) (by omega)
        rw [hz] at this; exact this
      have z1 : z < 256 := by rw [← hz]; exact Nat.or_lt_two_pow (n := 8) (by omega) (by omega)
      have z2 : 128 ≤ z := by rw [← hz]; exact Nat.right_le_or
      have Z := Lib.hid hz; clear hz
      by_cases h10 : k < 10
      · rw [if_pos h10] at C3
        go_wp2_with fail
        refine C3.out.mono ?_
        rintro e w' ⟨rfl, rfl⟩
        go_wp2_with fail
        refine (C2.out _).mono ?_
        rintro e w3 ⟨A, cA, rfl, hown3, hb3⟩
        have HB3 := Lib.hid (HB.out.trans (hb3.mono HB.out.size))
        clear hb3
        obtain ⟨g, cap', hv, hgB, hglt⟩ := hown3.form l0
        have hA : A = some ⟨g, 0, none⟩ := by injection hv
        clear hv
        subst hA
        have hst := hown3.stored (p.length - 1) (bv z)
        rw [← List.map_set] at hst
        have hc1 := hown3.cellAt (p.length - 1) (by omega)
        have hc2 : w3.cell? ⟨g, p.length - 1, none⟩ = some (.int .u8 (Pl.nth p (p.length - 1))) := by
          rw [hc1]; simp [bv, Pl.nth, List.getElem?_eq_getElem (show p.length - 1 < p.length by omega)]
        have hf := hown3.frozenAt (p.length - 1)
        have HST := Lib.hid hst.1
        have hcap := (slc_of_own hown3 PL.out).2.1
        have hcap2 := (slc_of_own hown3 PL.out).2.2.1
        clear hst hc1 hown3
        have hz2 : (w3.setCell ⟨g, p.length - 1, none⟩ (bv z)).heap.size = w3.heap.size := by simp [World.setCell]
        have hgw := HB.out.size
        have hw3 := HB3.out.size
        go_wp2_with (at_builtin; refine wpList_append_own _ rfl _ _ 23 rfl wr.heap.size 5 i0 (.int .u8 0) 1 1 Try.underlying23 HI.out hz0 hz1 hzb rfl (by decide) _ _ _ rfl (HST.out.alloc _) ⟨w3.heap.size, 0, none⟩ 1 1 [.int .u8 0] rfl rfl ?c1 ?c2 ?c3 ?c4 ?c5 ?_)
        case c1 =>
          have := new_cells (w3.setCell ⟨g, p.length - 1, none⟩ (bv z)) [.int .u8 0] 5
          rwa [hz2] at this
        case c2 => exact one_cell _
        case c3 => unfold maxLen; omega
        case c4 => omega
        case c5 => simp; omega
        intro v' w4 hown4 hgrow4 _
        have hmap : (p.map bv).set (p.length - 1) (bv z) ++ [Value.int .u8 0] = ((p.set (p.length - 1) z) ++ [0]).map bv := by rw [← List.map_set]; simp [bv]
        rw [hmap] at hown4
        have hnz : ∀ j, j < (p.set (p.length - 1) z).length → ¬ Pl.nth (p.set (p.length - 1) z) j < 128 := fun j hj => by
          rw [List.length_set] at hj
          by_cases hjl : j = p.length - 1
          · subst hjl; simp [Pl.nth, hj]; omega
          · have := L1.out j (by omega)
            simp only [Pl.nth, List.getD_eq_getElem?_getD] at this ⊢
            rw [List.getElem?_set_ne (by omega)]; exact this
        have hmem : ∀ x ∈ (p.set (p.length - 1) z) ++ [0], x < 256 := fun x hx => by
          rcases List.mem_append.1 hx with h | h
          · rcases List.mem_or_eq_of_mem_set h with h | h
            · exact PL.out x h
            · omega
          · simp at h; omega
        obtain ⟨A4, c4, hv4, s4⟩ := slc_of_own2 hown4 hmem
        have t4 := take_any A4 (p.length + 1) c4 _ w4 s4
        rw [take_goneOn (by simp; omega) (by simp; omega) hnz] at t4
        have T4 := Lib.hid t4
        have hbel : Below w.heap.size w w4 := by
          refine Below.grown (w := (w3.setCell ⟨g, p.length - 1, none⟩ (bv z)).alloc (.cells #[.int .u8 0] 5)) ((HB3.out.setCell (p := ⟨g, p.length - 1, none⟩) (by show w.heap.size ≤ g; omega) _).alloc (by rw [hz2]; omega) _) hgrow4 (by simp; omega) (fun q hq => ?_)
          simp [Value.ownBlock] at hq; omega
        have BEL := Lib.hid hbel
        clear hbel t4 s4 hmem hnz hmap hown4 hgrow4
        rw [hv4]
        clear hv4
        go_wp2_with fail
        refine T4.out.mono ?_
        rintro e w' ⟨rfl, rfl⟩
        go_wp2
        go_ret
        exact ⟨rfl, BEL.out⟩
      · rw [if_neg h10] at C3
        go_wp2_with fail
        refine C3.out.mono ?_
        rintro e w' ⟨rfl, rfl⟩
        go_wp2_with fail
        refine (C2.out _).mono ?_
        rintro e w3 ⟨A, cA, rfl, hown3, hb3⟩
        have HB3 := Lib.hid (HB.out.trans (hb3.mono HB.out.size))
        clear hb3
        obtain ⟨g, cap', hv, hgB, hglt⟩ := hown3.form l0
        have hA : A = some ⟨g, 0, none⟩ := by injection hv
        clear hv
        subst hA
        have hst := hown3.stored (p.length - 1) (bv z)
        rw [← List.map_set] at hst
        have hc1 := hown3.cellAt (p.length - 1) (by omega)
        have hc2 : w3.cell? ⟨g, p.length - 1, none⟩ = some (.int .u8 (Pl.nth p (p.length - 1))) := by
          rw [hc1]; simp [bv, Pl.nth, List.getElem?_eq_getElem (show p.length - 1 < p.length by omega)]
        have hf := hown3.frozenAt (p.length - 1)
        have HST := Lib.hid hst.1
        have hcap := (slc_of_own hown3 PL.out).2.1
        have hcap2 := (slc_of_own hown3 PL.out).2.2.1
        clear hst hc1 hown3
        have hz2 : (w3.setCell ⟨g, p.length - 1, none⟩ (bv z)).heap.size = w3.heap.size := by simp [World.setCell]
        have hgw := HB.out.size
        have hw3 := HB3.out.size
        go_wp2_with (at_builtin; refine wpList_append_own _ rfl _ _ 23 rfl wr.heap.size 5 i0 (.int .u8 0) 1 1 Try.underlying23 HI.out hz0 hz1 hzb rfl (by decide) _ _ _ rfl (HST.out.alloc _) ⟨w3.heap.size, 0, none⟩ 1 1 [.int .u8 0] rfl rfl ?c1 ?c2 ?c3 ?c4 ?c5 ?_)
        case c1 =>
          have := new_cells (w3.setCell ⟨g, p.length - 1, none⟩ (bv z)) [.int .u8 0] 5
          rwa [hz2] at this
        case c2 => exact one_cell _
        case c3 => unfold maxLen; omega
        case c4 => omega
        case c5 => simp; omega
        intro v' w4 hown4 hgrow4 _
        have hmap : (p.map bv).set (p.length - 1) (bv z) ++ [Value.int .u8 0] = ((p.set (p.length - 1) z) ++ [0]).map bv := by rw [← List.map_set]; simp [bv]
        rw [hmap] at hown4
        have hnz : ∀ j, j < (p.set (p.length - 1) z).length → ¬ Pl.nth (p.set (p.length - 1) z) j < 128 := fun j hj => by
          rw [List.length_set] at hj
          by_cases hjl : j = p.length - 1
          · subst hjl; simp [Pl.nth, hj]; omega
          · have := L1.out j (by omega)
            simp only [Pl.nth, List.getD_eq_getElem?_getD] at this ⊢
            rw [List.getElem?_set_ne (by omega)]; exact this
        have hmem : ∀ x ∈ (p.set (p.length - 1) z) ++ [0], x < 256 := fun x hx => by
          rcases List.mem_append.1 hx with h | h
          · rcases List.mem_or_eq_of_mem_set h with h | h
            · exact PL.out x h
            · omega
          · simp at h; omega
        obtain ⟨A4, c4, hv4, s4⟩ := slc_of_own2 hown4 hmem
        have t4 := take_any A4 (p.length + 1) c4 _ w4 s4
        rw [take_goneOn (by simp; omega) (by simp; omega) hnz] at t4
        have T4 := Lib.hid t4
        have hbel : Below w.heap.size w w4 := by
          refine Below.grown (w := (w3.setCell ⟨g, p.length - 1, none⟩ (bv z)).alloc (.cells #[.int .u8 0] 5)) ((HB3.out.setCell (p := ⟨g, p.length - 1, none⟩) (by show w.heap.size ≤ g; omega) _).alloc (by rw [hz2]; omega) _) hgrow4 (by simp; omega) (fun q hq => ?_)
          simp [Value.ownBlock] at hq; omega
        have BEL := Lib.hid hbel
        clear hbel t4 s4 hmem hnz hmap hown4 hgrow4
        rw [hv4]
        clear hv4
        go_wp2_with fail
        refine T4.out.mono ?_
        rintro e w' ⟨rfl, rfl⟩
        go_wp2
        go_ret
        exact ⟨rfl, BEL.out⟩
end Go.Proofs.Ytjmafkdbopdljaa
