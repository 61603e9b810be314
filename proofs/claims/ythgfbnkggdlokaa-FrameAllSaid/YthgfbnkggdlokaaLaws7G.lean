/-
  Merged: RfI, RfM, Laws7G.
-/
import Derived.Test.YthgfbnkggdlokaaFrB
import Derived.Deep.DeepCutAuto
import Derived.Test.YthgfbnkggdlokaaRfK
import Derived.Test.YthgfbnkggdlokaaROpen
import Derived.Test.YthgfbnkggdlokaaLaws7A
import Derived.Test.YthgfbnkggdlokaaFrS
import Derived.Lib.MinMax
/-
  The walk of kithlaw07.few: 22 events at most.
-/

namespace Go.Proofs.Ythgfbnkggdlokaa
open Go.RowKit
set_option maxRecDepth 100000

set_option maxHeartbeats 1600000 in
theorem few_any (f : Fr) (A : Option Addr) (n cap : Nat) (w : World) (h : EvSl w A n cap f.es) (m : Nat) (hm : m = min n 22) :
    Calls Try.prog 13 #[f.val (.slice A n cap)] w fun x w' => x = .returned (Fr.val { f with es := f.es.take m } (.slice A m cap)) ∧ EvSl w' A m cap (f.es.take m) ∧ Below w.heap.size w w' := by
  have hlim := h.lim
  have hcap : n ≤ cap := h.2.1
  have hcm : cap ≤ 9223372036854775807 := h.2.2.1
  by_cases h22 : 22 < n
  · have HT := Lib.hid (h.take (u := 22) (by omega))
    obtain rfl : m = 22 := by omega
    clear hm
    have h22' : (22 : Int) < n := by omega
    have hmn : min (n : Int) 22 = 22 := by omega
    have mc : (22 : Int) ≤ cap := by omega
    have mc' : 22 ≤ cap := by omega
    clear h
    go_enter Try.func13, Try.ntmps13
    unfold Fr.val
    go_upto_region 1 with (fail)
    refine wp_named (fun W hW => ?_)
    have KF := Lib.hid (show Blk W w.heap.size (f.cells (.slice A n cap)) 26 by rw [hW]; exact (Blk.new w (f.cells (.slice A n cap)) 26).alloc _)
    have KR := Lib.hid (show Blk W (w.heap.size + 1) (Fr.zero.cells (.slice none 0 0)) 26 by
      rw [hW]
      have := Blk.new (w.alloc (.cells (f.cells (.slice A n cap)) 26)) (Fr.zero.cells (.slice none 0 0)) 26
      simp only [World.size_alloc] at this
      exact this)
    have UW := Lib.hid (show Below w.heap.size w W by rw [hW]; exact ((Below.refl w.heap.size w).alloc (Nat.le_refl _) _).alloc (by simp) _)
    clear hW
    obtain ⟨a0, a1, a2, a3, a4, a5, a6, a7, a8⟩ := KF.out.fr
    have f8 := KF.out.frozen 8
    have lt0 := KF.out.lt
    go_upto_region 2 with (fail)
    refine wp_named (fun W2 hW => ?_)
    have KF2 := Lib.hid (show Blk W2 w.heap.size (f.cells (.slice A 22 cap)) 26 by rw [hW]; exact KF.out.set 8 _)
    have KR2 := Lib.hid (show Blk W2 (w.heap.size + 1) (Fr.zero.cells (.slice none 0 0)) 26 by rw [hW]; exact KR.out.other (by simp) _)
    have U2 := Lib.hid (show Below w.heap.size w W2 by rw [hW]; exact UW.out.setCell (Nat.le_refl _) _)
    clear hW KF KR UW a0 a1 a2 a3 a4 a5 a6 a7 a8 f8 lt0
    obtain ⟨a0, a1, a2, a3, a4, a5, a6, a7, a8⟩ := KF2.out.fr
    obtain ⟨j0, j1, j2, j3, j4, j5, j6, j7, j8⟩ := KR2.out.fr
    have fr := KR2.out.frozen
    have f0 := fr 0; have f1 := fr 1; have f2 := fr 2; have f3 := fr 3; have f4 := fr 4; have f5 := fr 5; have f6 := fr 6; have f7 := fr 7; have f8 := fr 8
    clear fr
    go_wp2
    change bodyPost _ _ _ _ _ (put9 W2 (w.heap.size + 1) f (.slice A 22 cap))
    have K := put9_blk KR2.out f (.slice A 22 cap)
    have BB := put9_below U2.out (Nat.le_succ w.heap.size) f (.slice A 22 cap)
    generalize put9 W2 (w.heap.size + 1) f (.slice A 22 cap) = W5 at *
    obtain ⟨k0', k1', k2', k3', k4', k5', k6', k7', k8'⟩ := K.fr
    exact bodyPost_ret (v := Fr.val { f with es := f.es.take 22 } (.slice A 22 cap)) (by simp [results, Try.results13, go_sem, Fr.val, k0', k1', k2', k3', k4', k5', k6', k7', k8']) rfl ⟨rfl, HT.out.below (Nat.le_refl _) BB, BB⟩
  · obtain rfl : n = m := by omega
    clear hm
    have HT := Lib.hid (h.take (u := n) (Nat.le_refl _))
    have h22' : ¬ (22 : Int) < n := by omega
    have hmn : min (n : Int) 22 = n := by omega
    have mc : (n : Int) ≤ cap := by omega
    clear h
    go_enter Try.func13, Try.ntmps13
    unfold Fr.val
    go_upto_region 1 with (fail)
    refine wp_named (fun W hW => ?_)
    have KF := Lib.hid (show Blk W w.heap.size (f.cells (.slice A n cap)) 26 by rw [hW]; exact (Blk.new w (f.cells (.slice A n cap)) 26).alloc _)
    have KR := Lib.hid (show Blk W (w.heap.size + 1) (Fr.zero.cells (.slice none 0 0)) 26 by
      rw [hW]
      have := Blk.new (w.alloc (.cells (f.cells (.slice A n cap)) 26)) (Fr.zero.cells (.slice none 0 0)) 26
      simp only [World.size_alloc] at this
      exact this)
    have UW := Lib.hid (show Below w.heap.size w W by rw [hW]; exact ((Below.refl w.heap.size w).alloc (Nat.le_refl _) _).alloc (by simp) _)
    clear hW
    obtain ⟨a0, a1, a2, a3, a4, a5, a6, a7, a8⟩ := KF.out.fr
    have f8 := KF.out.frozen 8
    have lt0 := KF.out.lt
    go_upto_region 2 with (fail)
    refine wp_named (fun W2 hW => ?_)
    have KF2 := Lib.hid (show Blk W2 w.heap.size (f.cells (.slice A n cap)) 26 by rw [hW]; exact KF.out.set 8 _)
    have KR2 := Lib.hid (show Blk W2 (w.heap.size + 1) (Fr.zero.cells (.slice none 0 0)) 26 by rw [hW]; exact KR.out.other (by simp) _)
    have U2 := Lib.hid (show Below w.heap.size w W2 by rw [hW]; exact UW.out.setCell (Nat.le_refl _) _)
    clear hW KF KR UW a0 a1 a2 a3 a4 a5 a6 a7 a8 f8 lt0
    obtain ⟨a0, a1, a2, a3, a4, a5, a6, a7, a8⟩ := KF2.out.fr
    obtain ⟨j0, j1, j2, j3, j4, j5, j6, j7, j8⟩ := KR2.out.fr
    have fr := KR2.out.frozen
    have f0 := fr 0; have f1 := fr 1; have f2 := fr 2; have f3 := fr 3; have f4 := fr 4; have f5 := fr 5; have f6 := fr 6; have f7 := fr 7; have f8 := fr 8
    clear fr
    go_wp2
    change bodyPost _ _ _ _ _ (put9 W2 (w.heap.size + 1) f (.slice A n cap))
    have K := put9_blk KR2.out f (.slice A n cap)
    have BB := put9_below U2.out (Nat.le_succ w.heap.size) f (.slice A n cap)
    generalize put9 W2 (w.heap.size + 1) f (.slice A n cap) = W5 at *
    obtain ⟨k0', k1', k2', k3', k4', k5', k6', k7', k8'⟩ := K.fr
    exact bodyPost_ret (v := Fr.val { f with es := f.es.take n } (.slice A n cap)) (by simp [results, Try.results13, go_sem, Fr.val, k0', k1', k2', k3', k4', k5', k6', k7', k8']) rfl ⟨rfl, HT.out.below (Nat.le_refl _) BB, BB⟩
end Go.Proofs.Ythgfbnkggdlokaa

/-
  The reference of frames: its walk of Take.
-/
namespace Go.Proofs.Ythgfbnkggdlokaa
open Go.RowKit
set_option maxRecDepth 100000

theorem put_pos (m : Nat) : 0 < (Pl.put m).length := by
  unfold Pl.put Pl.putF
  split <;> simp
theorem takeF_open {xs : List Nat} (hl : xs.length ≤ 2048) (ho : Cr.opens xs = true) : (Fr.takeF xs).2 = 0 ∨ Fr.takeF xs = (Fr.zero, 3) := by
  unfold Fr.takeF
  rw [if_neg (by omega), if_neg (by rw [ho]; simp)]
  cases Fr.meas (xs.take (xs.length - 4)) with
  | none => exact .inr rfl
  | some ys =>
    simp only
    split
    · exact .inl rfl
    · exact .inr rfl
theorem raw_of {xs : List Nat} {g : Fr} (h : Fr.bytes g = xs) : xs.take (xs.length - 4) = Fr.raw g := by
  rw [← h, Fr.bytes]
  exact Cr.sealed_take _
theorem tk_bad1 {xs : List Nat} (hx : Bts xs) (hl : xs.length ≤ 2048) (ho : Cr.opens xs = true) (h : (Pl.take (xs.take (xs.length - 4))).2.2 ≠ 0) : Fr.takeF xs = (Fr.zero, 3) := by
  rcases takeF_open hl ho with h0 | h0
  · obtain ⟨G, hb⟩ := Fr.take_of hx h0
    have h1 := (Fr.body_len G).2
    rw [raw_of hb, Fr.raw, Pl.take_put (by omega)] at h
    exact absurd rfl h
  · exact h0
theorem tk_bad2 {xs : List Nat} {f : Fr} (hx : Bts xs) (hl : xs.length ≤ 2048) (ho : Cr.opens xs = true) (hr : RdBack ((xs.take (xs.length - 4)).drop (Pl.take (xs.take (xs.length - 4))).2.1) f) (h : ¬ (Fr.may f = true ∧ Fr.bytes f = xs)) :
    Fr.takeF xs = (Fr.zero, 3) := by
  rcases takeF_open hl ho with h0 | h0
  · obtain ⟨G, hb⟩ := Fr.take_of hx h0
    have h1 := (Fr.body_len G).2
    have h2 := hr _ G (by rw [raw_of hb, Fr.raw, Pl.take_put (by omega), List.drop_left])
    rw [h2] at h
    exact absurd ⟨(Fr.may_iff _).2 G, hb⟩ h
  · exact h0
theorem tk_good {xs : List Nat} {f : Fr} (h1 : Fr.may f = true) (h2 : Fr.bytes f = xs) : Fr.takeF xs = (f, 0) := by
  rw [← h2]
  exact Fr.take_put ((Fr.may_iff f).1 h1)


set_option maxHeartbeats 4000000 in
theorem rtake7_any (A : Option Addr) (n cap : Nat) (xs : List Nat) (w : World) (h : Slc w A n cap xs) :
    Calls Try.prog 17 #[.slice A n cap] w (RetTk w (Fr.takeF xs).1 (.int .i64 (Fr.takeF xs).2)) := by
  obtain ⟨R, hR⟩ : ∃ R, Fr.takeF xs = R := ⟨_, rfl⟩
  have CO := Lib.hid (fun w h hn => ropen_any A n cap xs w h hn)
  have CT := Lib.hid (fun A n cap xs w h => rtake_any A n cap xs w h)
  have CR := Lib.hid (fun A n cap xs w h => read_any A n cap xs w h)
  have CP := Lib.hid (fun f A n cap w h => rput7_any f A n cap w h)
  unfold Fr.val at CP
  have K1 := Lib.hid (Blk.new w (Fr.zero.cells (.slice none 0 0)) 26)
  have U0 := Lib.hid (show Lex.Up w (w.alloc (.cells (Fr.zero.cells (.slice none 0 0)) 26)) from up_blk (Lex.Up.refl w))
  obtain ⟨W, hW⟩ : ∃ W, W = w.alloc (.cells (Fr.zero.cells (.slice none 0 0)) 26) := ⟨_, rfl⟩
  rw [← hW] at K1 U0
  have hl := h.1
  have hc := h.2.1
  have hm := h.2.2.1
  have BX := Lib.hid h.bts
  have HS := Lib.hid (h.below U0.out)
  have T1 := Lib.hid (fun h1 h2 h3 => (tk_bad1 (xs := xs) h.bts h1 h2 h3).symm.trans hR)
  have T2 := Lib.hid (fun f h1 h2 h3 h4 => (tk_bad2 (xs := xs) (f := f) h.bts h1 h2 h3 h4).symm.trans hR)
  have T3 := Lib.hid (fun f h1 h2 => (tk_good (xs := xs) (f := f) h1 h2).symm.trans hR)
  have T4 := Lib.hid (show 2048 < n → (Fr.zero, 5) = R from fun hb => by rw [← hR, Fr.takeF, if_pos (by rw [hl]; exact hb)])
  have T5 := Lib.hid (show n ≤ 2048 → Cr.opens xs = false → (Fr.zero, 4) = R from fun hb ho => by rw [← hR, Fr.take_shut (by rw [hl]; exact hb) ho])
  rw [hR]
  clear h hR
  rw [hl] at T1 T2
  go_enter Try.func17, Try.ntmps17
  go_upto_region 1 with (fail)
  refine wp_named (fun W2 hW2 => ?_)
  obtain rfl : W2 = W := by rw [hW2, hW]; rfl
  clear hW hW2
  by_cases hbig : 2048 < n
  · have hd : decide (2048 < (n : Int)) = true := by simp; omega
    have hT := T4.out hbig
    subst hT
    clear T1 T2 T3 T4 T5 CO CT CR CP HS
    have OZ0 := Lib.hid (show OwnE W2 (w.heap.size + 1) (.slice none Fr.zero.es.length 0) Fr.zero.es from OwnE.nil W2 (w.heap.size + 1))
    obtain ⟨j0, j1, j2, j3, j4, j5, j6, j7, j8⟩ := (K1.out).fr
    have f := (K1.out).frozen
    have f0 := f 0; have f1 := f 1; have f2 := f 2; have f3 := f 3; have f4 := f 4; have f5 := f 5; have f6 := f 6; have f7 := f 7; have f8 := f 8
    clear f
    go_wp2
    change bodyPost _ _ _ _ _ (put9 W2 w.heap.size Fr.zero (.slice none (Fr.zero).es.length 0))
    have K := put9_blk (K1.out) Fr.zero (.slice none (Fr.zero).es.length 0)
    have BB := put9_below (U0.out) (Nat.le_refl w.heap.size) Fr.zero (.slice none (Fr.zero).es.length 0)
    have SZ := ((OZ0.out).by_ (put9_by W2 w.heap.size Fr.zero (.slice none (Fr.zero).es.length 0)) (Nat.lt_succ_self _)).mono (Nat.le_succ _)
    generalize put9 W2 w.heap.size Fr.zero (.slice none (Fr.zero).es.length 0) = W5 at *
    obtain ⟨k0', k1', k2', k3', k4', k5', k6', k7', k8'⟩ := K.fr
    exact bodyPost_ret (v := .tuple #[Fr.val Fr.zero (.slice none (Fr.zero).es.length 0), .int .i64 5]) (by simp [results, Try.results17, go_sem, Fr.val, k0', k1', k2', k3', k4', k5', k6', k7', k8']) rfl ⟨none, 0, rfl, SZ, BB⟩
  have hd : decide (2048 < (n : Int)) = false := by simp; omega
  have hle : n ≤ 2048 := by omega
  clear T4
  go_wp2_with fail
  refine (CO.out _ HS.out (by omega)).mono ?_
  rintro x w1 ⟨hb1, ⟨ho, v1, rfl, hown1⟩ | ⟨ho, rfl⟩⟩
  rotate_left
  · have hT := T5.out hle ho
    subst hT
    have L1 := Lib.hid (K1.out.up hb1)
    have U1 := Lib.hid (U0.out.trans hb1)
    clear T1 T2 T3 T5 CT CR CP HS CO hb1 K1 U0
    have OZ0 := Lib.hid (show OwnE w1 (w.heap.size + 1) (.slice none Fr.zero.es.length 0) Fr.zero.es from OwnE.nil w1 (w.heap.size + 1))
    obtain ⟨j0, j1, j2, j3, j4, j5, j6, j7, j8⟩ := (L1.out).fr
    have f := (L1.out).frozen
    have f0 := f 0; have f1 := f 1; have f2 := f 2; have f3 := f 3; have f4 := f 4; have f5 := f 5; have f6 := f 6; have f7 := f 7; have f8 := f 8
    clear f
    go_wp2
    change bodyPost _ _ _ _ _ (put9 w1 w.heap.size Fr.zero (.slice none (Fr.zero).es.length 0))
    have K := put9_blk (L1.out) Fr.zero (.slice none (Fr.zero).es.length 0)
    have BB := put9_below (U1.out) (Nat.le_refl w.heap.size) Fr.zero (.slice none (Fr.zero).es.length 0)
    have SZ := ((OZ0.out).by_ (put9_by w1 w.heap.size Fr.zero (.slice none (Fr.zero).es.length 0)) (Nat.lt_succ_self _)).mono (Nat.le_succ _)
    generalize put9 w1 w.heap.size Fr.zero (.slice none (Fr.zero).es.length 0) = W5 at *
    obtain ⟨k0', k1', k2', k3', k4', k5', k6', k7', k8'⟩ := K.fr
    exact bodyPost_ret (v := .tuple #[Fr.val Fr.zero (.slice none (Fr.zero).es.length 0), .int .i64 4]) (by simp [results, Try.results17, go_sem, Fr.val, k0', k1', k2', k3', k4', k5', k6', k7', k8']) rfl ⟨none, 0, rfl, SZ, BB⟩
  have T1 := Lib.hid (T1.out hle ho)
  have T2 := Lib.hid (fun f => T2.out f hle ho)
  rw [hl] at hown1
  obtain ⟨A1, cap1, rfl, hs1⟩ := slc_of_own2 hown1 (fun x hx => BX.out x (List.mem_of_mem_take hx))
  have L1 := Lib.hid (K1.out.up hb1)
  have U1 := Lib.hid (U0.out.trans hb1)
  have S1 := Lib.hid hs1
  have S0 := Lib.hid (HS.out.below hb1)
  clear hown1 hs1 hb1 ho CO HS K1 U0 T5
  generalize xs.take (n - 4) = ys at *
  go_wp2_with fail
  refine (CT.out A1 (n - 4) cap1 ys _ S1.out).mono ?_
  rintro x w2 ⟨rfl, hb2⟩
  have L2 := Lib.hid (L1.out.up hb2)
  have U2 := Lib.hid (U1.out.trans hb2)
  have S2 := Lib.hid (S1.out.below hb2)
  have S02 := Lib.hid (S0.out.below hb2)
  have TL := Lib.hid (take_le ys)
  have TE := Lib.hid (show (Pl.take ys).2.2 = 0 → 0 < (Pl.take ys).2.1 from fun h => by
    obtain ⟨_, _, h3⟩ := take_back S2.out.bts h
    rw [h3]
    exact put_pos _)
  clear hb2 L1 U1 S1 S0 CT
  generalize (Pl.take ys).2.2 = e0 at *
  generalize (Pl.take ys).2.1 = k0 at *
  generalize (Pl.take ys).1 = p0 at *
  by_cases he : e0 = 0
  rotate_left
  · have hd2 : ((e0 : Int) != 0) = true := by simp [bne]; omega
    have hT := T1.out he
    subst hT
    clear T1 T2 T3 S2 S02 CR CP TL TE
    have OZ0 := Lib.hid (show OwnE w2 (w.heap.size + 1) (.slice none Fr.zero.es.length 0) Fr.zero.es from OwnE.nil w2 (w.heap.size + 1))
    obtain ⟨j0, j1, j2, j3, j4, j5, j6, j7, j8⟩ := (L2.out).fr
    have f := (L2.out).frozen
    have f0 := f 0; have f1 := f 1; have f2 := f 2; have f3 := f 3; have f4 := f 4; have f5 := f 5; have f6 := f 6; have f7 := f 7; have f8 := f 8
    clear f
    go_wp2
    change bodyPost _ _ _ _ _ (put9 w2 w.heap.size Fr.zero (.slice none (Fr.zero).es.length 0))
    have K := put9_blk (L2.out) Fr.zero (.slice none (Fr.zero).es.length 0)
    have BB := put9_below (U2.out) (Nat.le_refl w.heap.size) Fr.zero (.slice none (Fr.zero).es.length 0)
    have SZ := ((OZ0.out).by_ (put9_by w2 w.heap.size Fr.zero (.slice none (Fr.zero).es.length 0)) (Nat.lt_succ_self _)).mono (Nat.le_succ _)
    generalize put9 w2 w.heap.size Fr.zero (.slice none (Fr.zero).es.length 0) = W5 at *
    obtain ⟨k0', k1', k2', k3', k4', k5', k6', k7', k8'⟩ := K.fr
    exact bodyPost_ret (v := .tuple #[Fr.val Fr.zero (.slice none (Fr.zero).es.length 0), .int .i64 3]) (by simp [results, Try.results17, go_sem, Fr.val, k0', k1', k2', k3', k4', k5', k6', k7', k8']) rfl ⟨none, 0, rfl, SZ, BB⟩
  subst he
  have hk0 := TE.out rfl
  have hys : ys.length = n - 4 := S2.out.1
  have hkn : k0 ≤ n - 4 := by have := TL.out; omega
  have hcc : n - 4 ≤ cap1 := S2.out.2.1
  have hcm1 : cap1 ≤ 9223372036854775807 := S2.out.2.2.1
  obtain ⟨b1, o1, rfl, -, -⟩ := S2.out.2.2.2.2 (by omega)
  have Z2 : w.heap.size + 1 ≤ w2.heap.size := L2.out.lt
  clear T1 TE TL
  generalize n - 4 = q at *
  go_upto_region 9 with (fail)
  go_cut [9] (fun v9 wx => ∃ (b9 : Nat) (f : Fr) (A3 : Option Addr) (cap3 : Nat), v9 = .pointer (some ⟨b9, 0, none⟩) ∧ Hid (Blk wx b9 (f.cells (.slice A3 f.es.length cap3)) 26) ∧ Hid (OwnE wx (w.heap.size + 1) (.slice A3 f.es.length cap3) f.es) ∧ Hid (RdBack (ys.drop k0) f) ∧ Hid (Lex.Up w2 wx))
  case first =>
    by_cases hcu : cap1 = k0
    · have hn2 : q = k0 := by omega
      have SD := Lib.hid (show Slc w2 (some ⟨b1, o1, none⟩) 0 0 (ys.drop k0) from slc_end (hys.trans hn2))
      subst hcu hn2
      go_wp2_with fail
      refine (CR.out _ _ _ (ys.drop _) _ SD.out).mono ?_
      rintro x w5 ⟨f, A3, cap3, rfl, ho, hb, hr, _⟩
      unfold Fr.val
      go_wp2_with fail
      go_meet
      exact ⟨_, f, A3, cap3, rfl, Lib.hid (Blk.new w5 (f.cells (.slice A3 f.es.length cap3)) 26), Lib.hid (OwnE.mono (OwnE.up ho (up_blk (Lex.Up.refl w5))) Z2), Lib.hid hr, Lib.hid (hb.alloc hb.size _)⟩
    · have SD := Lib.hid (slc_rest S2.out (u := k0) hkn hcu)
      have hi1 : (k0 : Int) ≤ q := by omega
      go_wp2_with fail
      refine (CR.out _ _ _ (ys.drop k0) _ SD.out).mono ?_
      rintro x w5 ⟨f, A3, cap3, rfl, ho, hb, hr, _⟩
      unfold Fr.val
      go_wp2_with fail
      go_meet
      exact ⟨_, f, A3, cap3, rfl, Lib.hid (Blk.new w5 (f.cells (.slice A3 f.es.length cap3)) 26), Lib.hid (OwnE.mono (OwnE.up ho (up_blk (Lex.Up.refl w5))) Z2), Lib.hid hr, Lib.hid (hb.alloc hb.size _)⟩
  case rest =>
    obtain ⟨b9, f, A3, cap3, rfl, KG, S3, HB, UC⟩ := hcut
    have L3 := Lib.hid (L2.out.up UC.out)
    have U3 := Lib.hid (U2.out.trans UC.out)
    have S03 := Lib.hid (S02.out.below UC.out)
    have T2 := Lib.hid (T2.out f HB.out)
    have T3 := Lib.hid (T3.out f)
    clear L2 U2 S02 S2 UC CR HB
    obtain ⟨c0, c1, c2, c3, c4, c5, c6, c7, c8⟩ := KG.out.fr
    go_wp2_with fail
    clear c0 c1 c2 c3 c4 c5 c6 c7 c8
    refine (CP.out f A3 _ cap3 _ S3.out.sl_of.2).mono ?_
    rintro x w5 ⟨v5, rfl, hown5, hb5⟩
    have L5 := Lib.hid (L3.out.up hb5)
    have KG5 := Lib.hid (KG.out.up hb5)
    have U5 := Lib.hid (U3.out.trans hb5)
    have S5 := Lib.hid (S3.out.up hb5)
    have S05 := Lib.hid (S03.out.below hb5)
    have HO5 := Lib.hid hown5
    clear L3 KG U3 S3 S03 CP hb5 hown5
    have HG := Lib.hid (show Fr.may f = true → Fr.Good f from (Fr.may_iff f).1)
    have HO := Lib.hid (show Fr.out f = if Fr.may f = true then Fr.bytes f else [] from rfl)
    generalize hz : Fr.may f = z at *
    clear hz
    cases z
    · have hT := T2.out (by simp)
      subst hT
      clear T2 T3 HO HG S5 S05 KG5 HO5
      have OZ0 := Lib.hid (show OwnE w5 (w.heap.size + 1) (.slice none Fr.zero.es.length 0) Fr.zero.es from OwnE.nil w5 (w.heap.size + 1))
      obtain ⟨j0, j1, j2, j3, j4, j5, j6, j7, j8⟩ := (L5.out).fr
      have f := (L5.out).frozen
      have f0 := f 0; have f1 := f 1; have f2 := f 2; have f3 := f 3; have f4 := f 4; have f5 := f 5; have f6 := f 6; have f7 := f 7; have f8 := f 8
      clear f
      go_wp2
      change bodyPost _ _ _ _ _ (put9 w5 w.heap.size Fr.zero (.slice none (Fr.zero).es.length 0))
      have K := put9_blk (L5.out) Fr.zero (.slice none (Fr.zero).es.length 0)
      have BB := put9_below (U5.out) (Nat.le_refl w.heap.size) Fr.zero (.slice none (Fr.zero).es.length 0)
      have SZ := ((OZ0.out).by_ (put9_by w5 w.heap.size Fr.zero (.slice none (Fr.zero).es.length 0)) (Nat.lt_succ_self _)).mono (Nat.le_succ _)
      generalize put9 w5 w.heap.size Fr.zero (.slice none (Fr.zero).es.length 0) = W5 at *
      obtain ⟨k0', k1', k2', k3', k4', k5', k6', k7', k8'⟩ := K.fr
      exact bodyPost_ret (v := .tuple #[Fr.val Fr.zero (.slice none (Fr.zero).es.length 0), .int .i64 3]) (by simp [results, Try.results17, go_sem, Fr.val, k0', k1', k2', k3', k4', k5', k6', k7', k8']) rfl ⟨none, 0, rfl, SZ, BB⟩
    · rw [if_pos rfl] at HO
      rw [HO.out] at HO5
      have HL := Lib.hid (Fr.bytes_lt (HG.out rfl))
      obtain ⟨A6, cap6, rfl, hs6⟩ := slc_of_own2 HO5.out HL.out
      have cv1 := conv_slc hs6
      have cv2 := conv_slc S05.out
      by_cases heq : Fr.bytes f = xs
      · have hst := str_eq HL.out BX.out
        rw [decide_eq_true heq] at hst
        have hT := T3.out rfl heq
        subst hT
        have HE := Lib.hid heq
        clear heq T2 T3 HO HG HO5 hs6 S05 HL BX
        obtain ⟨c0, c1, c2, c3, c4, c5, c6, c7, c8⟩ := KG5.out.fr
        obtain ⟨j0, j1, j2, j3, j4, j5, j6, j7, j8⟩ := (L5.out).fr
        have f := (L5.out).frozen
        have f0 := f 0; have f1 := f 1; have f2 := f 2; have f3 := f 3; have f4 := f 4; have f5 := f 5; have f6 := f 6; have f7 := f 7; have f8 := f 8
        clear f
        go_wp2
        change bodyPost _ _ _ _ _ (put9 w5 w.heap.size f (.slice A3 (f).es.length cap3))
        have K := put9_blk (L5.out) f (.slice A3 (f).es.length cap3)
        have BB := put9_below (U5.out) (Nat.le_refl w.heap.size) f (.slice A3 (f).es.length cap3)
        have SZ := ((S5.out).by_ (put9_by w5 w.heap.size f (.slice A3 (f).es.length cap3)) (Nat.lt_succ_self _)).mono (Nat.le_succ _)
        generalize put9 w5 w.heap.size f (.slice A3 (f).es.length cap3) = W5 at *
        obtain ⟨k0', k1', k2', k3', k4', k5', k6', k7', k8'⟩ := K.fr
        exact bodyPost_ret (v := .tuple #[Fr.val f (.slice A3 (f).es.length cap3), .int .i64 0]) (by simp [results, Try.results17, go_sem, Fr.val, k0', k1', k2', k3', k4', k5', k6', k7', k8']) rfl ⟨A3, cap3, rfl, SZ, BB⟩
      · have hst := str_eq HL.out BX.out
        rw [decide_eq_false heq] at hst
        have hT := T2.out (fun h => heq h.2)
        subst hT
        have HE := Lib.hid heq
        clear heq T2 T3 HO HG HO5 hs6 S05 HL BX S5 KG5
        have OZ0 := Lib.hid (show OwnE w5 (w.heap.size + 1) (.slice none Fr.zero.es.length 0) Fr.zero.es from OwnE.nil w5 (w.heap.size + 1))
        obtain ⟨j0, j1, j2, j3, j4, j5, j6, j7, j8⟩ := (L5.out).fr
        have f := (L5.out).frozen
        have f0 := f 0; have f1 := f 1; have f2 := f 2; have f3 := f 3; have f4 := f 4; have f5 := f 5; have f6 := f 6; have f7 := f 7; have f8 := f 8
        clear f
        go_wp2
        change bodyPost _ _ _ _ _ (put9 w5 w.heap.size Fr.zero (.slice none (Fr.zero).es.length 0))
        have K := put9_blk (L5.out) Fr.zero (.slice none (Fr.zero).es.length 0)
        have BB := put9_below (U5.out) (Nat.le_refl w.heap.size) Fr.zero (.slice none (Fr.zero).es.length 0)
        have SZ := ((OZ0.out).by_ (put9_by w5 w.heap.size Fr.zero (.slice none (Fr.zero).es.length 0)) (Nat.lt_succ_self _)).mono (Nat.le_succ _)
        generalize put9 w5 w.heap.size Fr.zero (.slice none (Fr.zero).es.length 0) = W5 at *
        obtain ⟨k0', k1', k2', k3', k4', k5', k6', k7', k8'⟩ := K.fr
        exact bodyPost_ret (v := .tuple #[Fr.val Fr.zero (.slice none (Fr.zero).es.length 0), .int .i64 3]) (by simp [results, Try.results17, go_sem, Fr.val, k0', k1', k2', k3', k4', k5', k6', k7', k8']) rfl ⟨none, 0, rfl, SZ, BB⟩
end Go.Proofs.Ythgfbnkggdlokaa

/-
  The walk of FrameAll.
-/
namespace Go.Proofs.Ythgfbnkggdlokaa
open Go.RowKit
set_option maxRecDepth 100000

theorem short_any (A : Option Addr) (n cap : Nat) (w : World) (hc : n ≤ cap) (k : Nat) (hk2 : k = min n 2100) :
    Calls Try.prog 15 #[.slice A n cap] w fun e w' => e = .returned (.slice A k cap) ∧ w' = w := by
  have hk : min (n : Int) 2100 = k := by omega
  have hkc : k ≤ cap := by omega
  clear hk2
  go_enter Try.func15, Try.ntmps15
  go_wp2
  go_ret
  exact ⟨rfl, rfl⟩
theorem takes (xs : List Nat) : ∃ (g : Fr) (z : Nat), (∀ A n cap w, Slc w A n cap xs → Calls Try.prog 16 #[.slice A n cap] w (RetTk w g (.int .i64 z))) ∧ (∀ A n cap w, Slc w A n cap xs → Calls Try.prog 17 #[.slice A n cap] w (RetTk w g (.int .i64 z))) :=
  ⟨_, _, fun A n cap w h => frtake_any A n cap xs w h, fun A n cap w h => rtake7_any A n cap xs w h⟩
theorem out_lt (f : Fr) : Bts (Fr.out f) := by
  unfold Fr.out
  split
  · rename_i h; exact Fr.bytes_lt ((Fr.may_iff f).1 h)
  · intro x hx; cases hx
theorem puts (f : Fr) (A : Option Addr) (n cap : Nat) : ∃ (z : Int) (xs : List Nat), Bts xs ∧
    (∀ w, EvSl w A n cap f.es → Calls Try.prog 12 #[f.val (.slice A n cap)] w fun x w' => ∃ v, x = .returned (.tuple #[v, .int .i64 z]) ∧ w'.ownsRow w.heap.size 5 1 v xs.length (xs.map bv) ∧ Below w.heap.size w w') ∧
    (∀ w, EvSl w A n cap f.es → Calls Try.prog 14 #[f.val (.slice A n cap)] w fun x w' => ∃ v, x = .returned (.tuple #[v, .int .i64 z]) ∧ w'.ownsRow w.heap.size 5 1 v xs.length (xs.map bv) ∧ Below w.heap.size w w') :=
  ⟨_, _, out_lt f, fun w h => frput_any f A n cap w h, fun w h => rput7_any f A n cap w h⟩

set_option maxHeartbeats 4000000 in
theorem law_all7 (f : Fr) (A B : Option Addr) (n m cap cap2 : Nat) (xs : List Nat) (w : World) (h : EvSl w A n cap f.es) (h' : Slc w B m cap2 xs) :
    Calls Try.prog 3 #[f.val (.slice A n cap), .slice B m cap2] w fun e w' => e = .returned (.bool true) ∧ Below w.heap.size w w' := by
  have C0 := Lib.hid (fun w => shown_any w)
  obtain ⟨f2, m2, CF0⟩ : ∃ (f2 : Fr) (m2 : Nat), ∀ w1, EvSl w1 A n cap f.es → Calls Try.prog 13 #[f.val (.slice A n cap)] w1 fun x w' => x = .returned (f2.val (.slice A m2 cap)) ∧ EvSl w' A m2 cap f2.es ∧ Below w1.heap.size w1 w' := ⟨_, _, fun w1 h => few_any f A n cap w1 h _ rfl⟩
  obtain ⟨z, ps, hps, CP0, CQ0⟩ := puts f2 A m2 cap
  obtain ⟨l, hl⟩ : ∃ l, l = min m 2100 := ⟨_, rfl⟩
  have hl2 : l ≤ 2100 := by omega
  have CH := Lib.hid (fun w => short_any B m cap2 w h'.2.1 l hl)
  have SB := Lib.hid (fun w' (hu : Lex.Up w w') => (h'.take_ (u := l) (by omega)).below hu)
  have hys : Bts (xs.take l) := fun x hx => h'.bts x (List.mem_of_mem_take hx)
  generalize xs.take l = ys at *
  obtain ⟨g1, z1, CT0, CU0⟩ := takes ys
  obtain ⟨g2, z2, CV0, CW0⟩ := takes (Cr.sealed ys)
  have CE := Lib.hid (fun w' (h : Slc w' B l cap2 ys) => seal_any B l cap2 ys w' h (by omega))
  have HZ := Lib.hid (Cr.sealed_lt hys)
  have HP := Lib.hid hps
  have CF := Lib.hid CF0; have CP := Lib.hid CP0; have CQ := Lib.hid CQ0; have CT := Lib.hid CT0; have CU := Lib.hid CU0; have CV := Lib.hid CV0; have CW := Lib.hid CW0
  clear CF0 CP0 CQ0 CT0 CU0 CV0 CW0 hps hys
  generalize Cr.sealed ys = zs at *
  have CS := Lib.hid (fun f g A B n m cap cap2 w ha hb => same7_any f g A B n m cap cap2 w ha hb)
  have KA := Lib.hid (Blk.new w (f.cells (.slice A n cap)) 26)
  have U0 := Lib.hid (show Lex.Up w (w.alloc (.cells (f.cells (.slice A n cap)) 26)) from up_blk (Lex.Up.refl w))
  have SA := Lib.hid (fun w' (hu : Lex.Up w w') => EvSl.up h hu)
  clear h h' hl
  unfold Fr.val at CF CP CQ ⊢
  go_enter Try.func3, Try.ntmps3
  go_wp2_with fail
  refine (C0.out _).mono ?_
  rintro e w1 ⟨rfl, hb1⟩
  have KA1 := Lib.hid (KA.out.up hb1); have U1 := Lib.hid (U0.out.trans hb1)
  clear KA U0 hb1 C0
  obtain ⟨k0, k1, k2, k3, k4, k5, k6, k7, k8⟩ := KA1.out.fr
  go_wp2_with fail
  clear k0 k1 k2 k3 k4 k5 k6 k7 k8
  refine (CF.out _ (SA.out _ U1.out)).mono ?_
  rintro e w2 ⟨rfl, hs2, hb2⟩
  have KA2 := Lib.hid (KA1.out.up hb2); have U2 := Lib.hid (U1.out.trans hb2)
  have S2 := Lib.hid hs2
  clear KA1 U1 hb2 hs2
  go_wp2_with fail
  refine (CP.out _ S2.out).mono ?_
  rintro e w3 ⟨v3, rfl, hown3, hb3⟩
  obtain ⟨A3, cap3, rfl, hs3⟩ := slc_of_own2 hown3 HP.out
  have KA3 := Lib.hid (KA2.out.up hb3); have U3 := Lib.hid (U2.out.trans hb3)
  have P3 := Lib.hid hs3
  clear KA2 U2 hb3 hs3 hown3 CP S2
  obtain ⟨k0, k1, k2, k3, k4, k5, k6, k7, k8⟩ := KA3.out.fr
  go_wp2_with fail
  clear k0 k1 k2 k3 k4 k5 k6 k7 k8
  refine (CF.out _ (SA.out _ U3.out)).mono ?_
  rintro e w4 ⟨rfl, hs4, hb4⟩
  have U4 := Lib.hid (U3.out.trans hb4)
  have S4 := Lib.hid hs4
  have P4 := Lib.hid (P3.out.below hb4)
  clear KA3 U3 hb4 hs4 P3 SA CF
  go_wp2_with fail
  refine (CQ.out _ S4.out).mono ?_
  rintro e w5 ⟨v5, rfl, hown5, hb5⟩
  obtain ⟨A5, cap5, rfl, hs5⟩ := slc_of_own2 hown5 HP.out
  have U5 := Lib.hid (U4.out.trans hb5)
  have P5 := Lib.hid (P4.out.below hb5)
  have Q5 := Lib.hid hs5
  clear U4 hb5 hs5 hown5 P4 CQ S4
  go_wp2_with fail
  refine (CH.out _).mono ?_
  rintro e w6 ⟨rfl, rfl⟩
  clear CH
  go_wp2_with fail
  refine (CT.out B l cap2 _ (SB.out _ U5.out)).mono ?_
  rintro e w7 ⟨A7, cap7, rfl, ho, hb⟩
  have hua := up_blk (cs := (g1).cells (.slice A7 (g1).es.length cap7)) (t := 26) hb
  have KX := Lib.hid (Blk.new w7 ((g1).cells (.slice A7 (g1).es.length cap7)) 26)
  have SX := Lib.hid (ho.sl_of.2.up (up_blk (cs := (g1).cells (.slice A7 (g1).es.length cap7)) (t := 26) (Lex.Up.refl w7)))
  have U7 := Lib.hid (U5.out.trans hua)
  have V7 := Lib.hid hua
  clear ho hb hua
  simp only [Fr.val]
  go_upto_region 6 with (fail)
  refine wp_named (fun W7 hW => ?_)
  have hW' : W7 = (w7).alloc (.cells ((g1).cells (.slice A7 (g1).es.length cap7)) 26) := hW
  rw [← hW'] at KX SX U7 V7
  clear hW hW'
  have P7 := Lib.hid (P5.out.below V7.out); have Q7 := Lib.hid (Q5.out.below V7.out)
  clear P5 Q5 V7 U5 CT
  go_wp2_with fail
  refine (CU.out B l cap2 _ (SB.out _ U7.out)).mono ?_
  rintro e w8 ⟨A8, cap8, rfl, ho, hb⟩
  have hua := up_blk (cs := (g1).cells (.slice A8 (g1).es.length cap8)) (t := 26) hb
  have KY := Lib.hid (Blk.new w8 ((g1).cells (.slice A8 (g1).es.length cap8)) 26)
  have SY := Lib.hid (ho.sl_of.2.up (up_blk (cs := (g1).cells (.slice A8 (g1).es.length cap8)) (t := 26) (Lex.Up.refl w8)))
  have U8 := Lib.hid (U7.out.trans hua)
  have V8 := Lib.hid hua
  clear ho hb hua
  simp only [Fr.val]
  go_upto_region 7 with (fail)
  refine wp_named (fun W8 hW => ?_)
  have hW' : W8 = (w8).alloc (.cells ((g1).cells (.slice A8 (g1).es.length cap8)) 26) := hW
  rw [← hW'] at KY SY U8 V8
  clear hW hW'
  have P8 := Lib.hid (P7.out.below V8.out); have Q8 := Lib.hid (Q7.out.below V8.out)
  have KX8 := Lib.hid (KX.out.up V8.out); have SX8 := Lib.hid (SX.out.up V8.out)
  clear P7 Q7 V8 U7 CU KX SX
  go_wp2_with fail
  refine (CE.out _ (SB.out _ U8.out)).mono ?_
  rintro e w9 ⟨A9, cap9, rfl, hown9, hb9⟩
  have Z9 := Lib.hid (slc_of_own hown9 HZ.out)
  have U9 := Lib.hid (U8.out.trans hb9)
  have P9 := Lib.hid (P8.out.below hb9); have Q9 := Lib.hid (Q8.out.below hb9)
  have KX9 := Lib.hid (KX8.out.up hb9); have SX9 := Lib.hid (SX8.out.up hb9)
  have KY9 := Lib.hid (KY.out.up hb9); have SY9 := Lib.hid (SY.out.up hb9)
  clear hown9 hb9 P8 Q8 U8 KX8 SX8 KY SY
  go_wp2_with fail
  refine (CV.out A9 _ cap9 _ Z9.out).mono ?_
  rintro e w10 ⟨A10, cap10, rfl, ho, hb⟩
  have hua := up_blk (cs := (g2).cells (.slice A10 (g2).es.length cap10)) (t := 26) hb
  have KU := Lib.hid (Blk.new w10 ((g2).cells (.slice A10 (g2).es.length cap10)) 26)
  have SU := Lib.hid (ho.sl_of.2.up (up_blk (cs := (g2).cells (.slice A10 (g2).es.length cap10)) (t := 26) (Lex.Up.refl w10)))
  have U10 := Lib.hid (U9.out.trans hua)
  have V10 := Lib.hid hua
  clear ho hb hua
  simp only [Fr.val]
  go_upto_region 8 with (fail)
  refine wp_named (fun W10 hW => ?_)
  have hW' : W10 = (w10).alloc (.cells ((g2).cells (.slice A10 (g2).es.length cap10)) 26) := hW
  rw [← hW'] at KU SU U10 V10
  clear hW hW'
  have P10 := Lib.hid (P9.out.below V10.out); have Q10 := Lib.hid (Q9.out.below V10.out)
  have KX10 := Lib.hid (KX9.out.up V10.out); have SX10 := Lib.hid (SX9.out.up V10.out)
  have KY10 := Lib.hid (KY9.out.up V10.out); have SY10 := Lib.hid (SY9.out.up V10.out)
  clear P9 Q9 V10 U9 CV KX9 SX9 KY9 SY9 Z9
  go_wp2_with fail
  refine (CE.out _ (SB.out _ U10.out)).mono ?_
  rintro e w11 ⟨A11, cap11, rfl, hown11, hb11⟩
  have Z11 := Lib.hid (slc_of_own hown11 HZ.out)
  have U11 := Lib.hid (U10.out.trans hb11)
  have P11 := Lib.hid (P10.out.below hb11); have Q11 := Lib.hid (Q10.out.below hb11)
  have KX11 := Lib.hid (KX10.out.up hb11); have SX11 := Lib.hid (SX10.out.up hb11)
  have KY11 := Lib.hid (KY10.out.up hb11); have SY11 := Lib.hid (SY10.out.up hb11)
  have KU11 := Lib.hid (KU.out.up hb11); have SU11 := Lib.hid (SU.out.up hb11)
  clear hown11 hb11 P10 Q10 U10 KX10 SX10 KY10 SY10 KU SU CE SB
  go_wp2_with fail
  refine (CW.out A11 _ cap11 _ Z11.out).mono ?_
  rintro e w12 ⟨A12, cap12, rfl, ho, hb⟩
  have hua := up_blk (cs := (g2).cells (.slice A12 (g2).es.length cap12)) (t := 26) hb
  have KV := Lib.hid (Blk.new w12 ((g2).cells (.slice A12 (g2).es.length cap12)) 26)
  have SV := Lib.hid (ho.sl_of.2.up (up_blk (cs := (g2).cells (.slice A12 (g2).es.length cap12)) (t := 26) (Lex.Up.refl w12)))
  have U12 := Lib.hid (U11.out.trans hua)
  have V12 := Lib.hid hua
  clear ho hb hua
  simp only [Fr.val]
  go_upto_region 9 with (fail)
  refine wp_named (fun W12 hW => ?_)
  have hW' : W12 = (w12).alloc (.cells ((g2).cells (.slice A12 (g2).es.length cap12)) 26) := hW
  rw [← hW'] at KV SV U12 V12
  clear hW hW'
  have FP := Lib.hid (fun w' (h : Lex.Up W12 w') => conv_slc ((P11.out.below V12.out).below h))
  have FQ := Lib.hid (fun w' (h : Lex.Up W12 w') => conv_slc ((Q11.out.below V12.out).below h))
  have FX := Lib.hid (fun w' (h : Lex.Up W12 w') => ((KX11.out.up V12.out).up h).fr)
  have FY := Lib.hid (fun w' (h : Lex.Up W12 w') => ((KY11.out.up V12.out).up h).fr)
  have FU := Lib.hid (fun w' (h : Lex.Up W12 w') => ((KU11.out.up V12.out).up h).fr)
  have FV := Lib.hid (fun w' (h : Lex.Up W12 w') => (KV.out.up h).fr)
  have S1 := Lib.hid (fun w' (h : Lex.Up W12 w') => CS.out g1 g1 A7 A8 _ _ cap7 cap8 w' ((SX11.out.up V12.out).up h) ((SY11.out.up V12.out).up h))
  have S2 := Lib.hid (fun w' (h : Lex.Up W12 w') => CS.out g2 g2 A10 A12 _ _ cap10 cap12 w' ((SU11.out.up V12.out).up h) (SV.out.up h))
  rw [decide_eq_true rfl] at S1 S2
  clear P11 Q11 KX11 SX11 KY11 SY11 KU11 SU11 KV SV CS CW Z11 U11 V12
  obtain ⟨c0, c1, c2, c3, c4, c5, c6, c7, c8⟩ := FX.out W12 (Lex.Up.refl _)
  obtain ⟨d0, d1, d2, d3, d4, d5, d6, d7, d8⟩ := FY.out W12 (Lex.Up.refl _)
  have p0 := FP.out W12 (Lex.Up.refl _)
  have p1 := FQ.out W12 (Lex.Up.refl _)
  go_wp2_with fail
  clear c0 c1 c2 c3 c4 c5 c6 c7 c8 d0 d1 d2 d3 d4 d5 d6 d7 d8 p0 p1
  refine (S1.out W12 (Lex.Up.refl _)).mono ?_
  rintro e w13 ⟨rfl, hb13⟩
  obtain ⟨c0, c1, c2, c3, c4, c5, c6, c7, c8⟩ := FU.out w13 hb13
  obtain ⟨d0, d1, d2, d3, d4, d5, d6, d7, d8⟩ := FV.out w13 hb13
  have H13 := Lib.hid hb13
  clear hb13
  go_wp2_with fail
  clear c0 c1 c2 c3 c4 c5 c6 c7 c8 d0 d1 d2 d3 d4 d5 d6 d7 d8
  refine (S2.out w13 H13.out).mono ?_
  rintro e w14 ⟨rfl, hb14⟩
  have U14 := Lib.hid ((U12.out.trans H13.out).trans hb14)
  clear hb14
  go_wp2
  go_ret
  exact ⟨rfl, U14.out⟩
end Go.Proofs.Ythgfbnkggdlokaa

