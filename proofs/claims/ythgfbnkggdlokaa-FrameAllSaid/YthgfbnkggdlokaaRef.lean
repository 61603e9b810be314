/-
  The walks of the references of layer 1, and of 'few'.
-/
import Derived.Test.YthgfbnkggdlokaaTake
import Derived.Test.YthgfbnkggdlokaaMath
import Derived.Deep.RegionWith
namespace Go.Proofs.Ythgfbnkggdlokaa
open Go.RowKit
set_option maxRecDepth 100000

set_option maxRecDepth 100000 in
set_option maxHeartbeats 400000 in
theorem rput_any (n : Nat) (w : World) (hn : n < 18446744073709551616) :
    Calls Try.prog 42 #[.int .u64 n] w (RetBytes w (Pl.put n)) := by
  obtain ⟨i0, hi, hz0, hz1, hz2⟩ := info_parts info5
  go_enter Try.func42, Try.ntmps42
  go_wp2
  go_loopw [0, 3] (fun v0 v3 wr => PutRel n w v0 v3 wr) (fun v0 _ _ => (intOf v0).toNat)
  case atStart => exact ⟨n, [], Nat.le_refl _, rfl, rfl, World.ownsRow_made w #[] 0 (Nat.le_refl _) (Nat.zero_le _) rfl, (Below.refl _ _).alloc (Nat.le_refl _) _⟩
  case round =>
    obtain ⟨m, xs, hm, rfl, hx, hown, hb⟩ := hrel
    have hm0 : (0 : Int) ≤ m := by omega
    have hm1 : (m : Int) ≤ 18446744073709551615 := by omega
    have hl : xs.length ≤ 11 := by have := Pl.put_len n; rw [← hx, List.length_append] at this; omega
    have HX := Lib.hid hx; clear hx
    have HN := Lib.hid hn; clear hn
    by_cases hlt : m < 128
    · go_wp2_with (at_builtin; refine wpList_append_own _ rfl _ _ 27 rfl w.heap.size 5 i0 (.int .u8 0) 1 1 Try.underlying27 hi hz0 hz1 hz2 rfl (by decide) _ _ _ rfl (hown.alloc _) ⟨wr.heap.size, 0, none⟩ 1 1 [.int .u8 m] rfl rfl ?c1 ?c2 ?c3 ?c4 ?c5 ?_)
      case c1 => exact new_cells wr [.int .u8 m] _
      case c2 => exact one_cell _
      case c3 => unfold maxLen; omega
      case c4 => omega
      case c5 => have := hb.size; simp; omega
      intro v' w1 hown' hgrow _
      go_wp2
      go_ret
      have hf : Pl.put n = xs ++ [m] := by rw [← HX.out, Pl.put_lo hlt]
      obtain ⟨A, cap, hv⟩ := own_form hown'
      have hl1 : (xs ++ [m]).length = xs.length + 1 := by simp
      exact ⟨A, cap, by rw [hv, hf, hl1]; rfl, by rw [hf, hl1, ← hv]; simpa [bv] using hown', (hb.alloc (by have := hb.size; omega) _).grown hgrow (by have := hb.size; simp; omega) (fun k hk => (hown.lt k hk).1)⟩
    · go_wp2_with (at_builtin; refine wpList_append_own _ rfl _ _ 27 rfl w.heap.size 5 i0 (.int .u8 0) 1 1 Try.underlying27 hi hz0 hz1 hz2 rfl (by decide) _ _ _ rfl (hown.alloc _) ⟨wr.heap.size, 0, none⟩ 1 1 [.int .u8 (m % 128 + 128)] rfl rfl ?c1 ?c2 ?c3 ?c4 ?c5 ?_)
      case c1 => exact new_cells wr [.int .u8 (m % 128 + 128)] _
      case c2 => exact one_cell _
      case c3 => unfold maxLen; omega
      case c4 => omega
      case c5 => have := hb.size; simp; omega
      intro v' w1 hown' hgrow _
      go_wp2
      go_roundw
      case rel =>
        have hh := Pl.put_hi hlt (by have := HN.out; omega)
        exact ⟨m / 128, xs ++ [m % 128 + 128], by omega, by go_num, by rw [← HX.out, hh]; simp, by simpa [bv] using hown', (hb.alloc (by have := hb.size; omega) _).grown hgrow (by have := hb.size; simp; omega) (fun k hk => (hown.lt k hk).1)⟩
      case measure => simp [intOf]; omega

/-- The number of bytes j .. j + m - 1, from the last one on. -/
def horner (xs : List Nat) (j : Nat) : Nat → Nat
  | 0 => 0
  | m + 1 => Pl.nth xs j % 128 + 128 * horner xs (j + 1) m
theorem horner_val (xs : List Nat) (j m : Nat) (h : j + m ≤ xs.length) : horner xs j m = Pl.val ((xs.drop j).take m) := by
  induction m generalizing j with
  | zero => simp [horner, Pl.val]
  | succ m ih =>
    have hj : j < xs.length := by omega
    rw [horner, ih (j + 1) (by omega), List.drop_eq_getElem_cons hj, List.take_succ_cons, Pl.val]
    simp [Pl.nth, hj]
def RTakeRel (xs : List Nat) (m : Nat) (i : Value) : Prop := ∃ k : Nat, k ≤ m ∧ i = .int .i64 k ∧ ∀ j, j < k → ¬ Pl.nth xs j < 128
/-- Of the bytes from j on, up to the k-th one. -/
def HornRel (xs : List Nat) (k : Nat) (v i : Value) : Prop := ∃ j : Nat, j ≤ k + 1 ∧ i = .int .i64 ((j : Int) - 1) ∧ v = .int .u64 ((horner xs j (k + 1 - j) % 18446744073709551616 : Nat) : Int)

set_option maxRecDepth 100000 in
set_option maxHeartbeats 400000 in
theorem rtake_any (A : Option Addr) (n cap : Nat) (xs : List Nat) (w : World) (h : Slc w A n cap xs) :
    Calls Try.prog 49 #[.slice A n cap] w fun e w' => e = .returned (.tuple #[.int .u64 (Pl.take xs).1, .int .i64 (Pl.take xs).2.1, .int .i64 (Pl.take xs).2.2]) ∧ Below w.heap.size w w' := by
  have hs := Lib.hid h
  obtain ⟨hl, hc, hm, hlt, hcell⟩ := h
  have HL := Lib.hid hl; clear hl
  have HT := Lib.hid hlt; clear hlt
  have HC := Lib.hid hcell; clear hcell
  by_cases h10 : n ≤ 10
  · have h10' : (n : Int) ≤ 10 := by omega
    go_enter Try.func49, Try.ntmps49
    go_wp2
    go_loop [6] (fun i => RTakeRel xs n i) (fun i => n - (intOf i).toNat)
    case atStart => exact ⟨0, by omega, rfl, fun j hj => absurd hj (by omega)⟩
    case round =>
      obtain ⟨k, hk, rfl, hb⟩ := hrel
      by_cases hlt : k < n
      · obtain ⟨b, off, rfl, _, hcell⟩ := HC.out (by omega)
        have hck := hcell k (by omega)
        unfold bv at hck
        have HCL := Lib.hid hcell; clear hcell
        have HB := Lib.hid hb; clear hb
        by_cases hsm : Pl.nth xs k < 128
        · have V := Lib.hid (Pl.vlen_some xs k (by omega) (by rw [HL.out]; omega) HB.out hsm)
          go_wp2
          go_loop [7, 8] (fun v i => HornRel xs k v i) (fun _ i => (intOf i + 1).toNat)
          case atStart => exact ⟨k + 1, Nat.le_refl _, by go_num, by simp [horner]⟩
          case round =>
            obtain ⟨j, hj, rfl, rfl⟩ := hrel
            by_cases hj0 : 0 < j
            · obtain ⟨i, rfl⟩ : ∃ i, j = i + 1 := ⟨j - 1, by omega⟩
              clear hck
              have hci := HCL.out i (by omega)
              unfold bv at hci
              have h255 := HT.out i
              generalize hh : horner xs (i + 1) (k + 1 - (i + 1)) % 18446744073709551616 = q at *
              have q1 : (0 : Int) ≤ q := by omega
              have q2 : (q : Int) ≤ 18446744073709551615 := by omega
              have HH := Lib.hid hh; clear hh
              have ei : (((i + 1 : Nat) : Int) - 1) = (i : Int) := by omega
              simp only [ei]
              clear ei
              have ea : IntKind.u64.wrap (IntKind.u64.wrap ((q : Int) * 128) + (Pl.nth xs i : Int) % 128) = ((horner xs i (k + 1 - i) % 18446744073709551616 : Nat) : Int) := by
                have e1 : k + 1 - i = (k + 1 - (i + 1)) + 1 := by omega
                have := HH.out
                rw [IntKind.wrap_u64, IntKind.wrap_u64, e1, horner]
                generalize horner xs (i + 1) (k + 1 - (i + 1)) = z at *
                omega
              have EA := Lib.hid ea; clear ea
              go_wp2
              go_round
              case rel => exact ⟨i, by omega, rfl, by rw [EA.out]⟩
              case measure => simp [intOf]
            · obtain rfl : j = 0 := by omega
              have hv : horner xs 0 (k + 1 - 0) = Pl.val (xs.take (k + 1)) := by
                have := horner_val xs 0 (k + 1) (by rw [HL.out]; omega)
                simpa using this
              rw [hv]
              clear hv
              have hys : (xs.take (k + 1)).length = k + 1 := by rw [List.length_take, HL.out]; omega
              obtain ⟨m, hmm⟩ : ∃ m, Pl.val (xs.take (k + 1)) % 18446744073709551616 = m := ⟨_, rfl⟩
              have hm2 : m < 18446744073709551616 := by omega
              have CV := Lib.hid (fun w' (hb : Below w.heap.size w w') => conv_slc ((hs.out.take_ (u := k + 1) (by omega)).below hb))
              have C1 := Lib.hid (fun w => rput_any m w hm2)
              rw [hmm]
              have HM := Lib.hid hmm; clear hmm
              have HY := Lib.hid hys; clear hys
              have HM2 := Lib.hid hm2; clear hm2
              have YL := Lib.hid (fun x (hx : x ∈ xs.take (k + 1)) => Pl.lt_of_nth HT.out x (List.mem_of_mem_take hx))
              clear hck
              generalize hyd : xs.take (k + 1) = ys at *
              have HYD := Lib.hid hyd; clear hyd
              have k1 : (0 : Int) ≤ (k : Int) + 1 := by omega
              have k2 : (k : Int) + 1 ≤ (cap : Int) := by omega
              have k3 : IntKind.i64.wrap ((k : Int) + 1) = (k : Int) + 1 := IntWalk.i64_in _ ⟨by omega, by omega⟩
              have k4 : ((k : Int) + 1).toNat = k + 1 := by omega
              have PL := Lib.hid (Pl.put_lt HM2.out)
              obtain ⟨r, hr⟩ : ∃ r, decide (Pl.put m = ys) = r := ⟨_, rfl⟩
              have hst := str_eq PL.out YL.out
              rw [hr] at hst
              have hres : Pl.take xs = if r then (m, k + 1, 0) else (0, 0, 3) := by
                cases r
                · exact Pl.rtake_false (m := m) HT.out V.out (by rw [HYD.out]; exact HM.out) (by rw [HYD.out]; exact of_decide_eq_false hr)
                · exact Pl.rtake_true (m := m) HT.out V.out (by rw [HYD.out]; exact HM.out) (by rw [HYD.out]; exact of_decide_eq_true hr)
              have RES := Lib.hid hres; clear hres hr
              go_wp2
              have cv0 := CV.out w.drew (Below.refl _ _).drew
              go_region_with (go_at_call 42; refine (C1.out _).mono ?_; rintro e w1 ⟨A1, c1, rfl, hown1, hb1⟩; have t1 := conv_slc (slc_of_own hown1 PL.out); have hb2 := (Below.refl w.heap.size w).drew.trans hb1; have cv1 := CV.out w1 hb2)
              all_goals clear t1 cv0 cv1 hown1
              all_goals cases r
              all_goals go_wp2
              all_goals go_ret3
              all_goals exact ⟨by rw [RES.out]; rfl, hb2⟩
        · go_wp2
          go_round
          case rel => exact ⟨k + 1, by omega, by go_num, fun j hj => by rcases Nat.lt_succ_iff_lt_or_eq.1 hj with h | rfl; exact HB.out j h; exact hsm⟩
          case measure => simp [intOf]; omega
      · have hkk : k = n := by omega
        have e := Pl.vlen_none xs (fun j h1 h2 => hb j (by rw [HL.out] at h2; omega))
        have HB := Lib.hid hb; clear hb
        have HE := Lib.hid e; clear e
        subst hkk
        have et : Pl.take xs = (0, 0, if k < 10 then 2 else 3) := by unfold Pl.take; rw [if_pos HE.out, HL.out]
        have ET := Lib.hid et; clear et
        by_cases h9 : k = 10
        · subst h9
          go_wp2
          go_ret3
          exact ⟨by rw [ET.out]; rfl, Below.refl _ _⟩
        · have h9i : ((k : Int) == 10) = false := by simp; omega
          go_wp2
          go_ret3
          exact ⟨by rw [ET.out, if_pos (by omega)]; rfl, Below.refl _ _⟩
  · have h10' : ¬ (n : Int) ≤ 10 := by omega
    go_enter Try.func49, Try.ntmps49
    go_wp2
    go_loop [6] (fun i => RTakeRel xs 10 i) (fun i => 10 - (intOf i).toNat)
    case atStart => exact ⟨0, by omega, rfl, fun j hj => absurd hj (by omega)⟩
    case round =>
      obtain ⟨k, hk, rfl, hb⟩ := hrel
      by_cases hlt : k < 10
      · obtain ⟨b, off, rfl, _, hcell⟩ := HC.out (by omega)
        have hck := hcell k (by omega)
        unfold bv at hck
        have HCL := Lib.hid hcell; clear hcell
        have HB := Lib.hid hb; clear hb
        by_cases hsm : Pl.nth xs k < 128
        · have V := Lib.hid (Pl.vlen_some xs k (by omega) (by rw [HL.out]; omega) HB.out hsm)
          go_wp2
          go_loop [7, 8] (fun v i => HornRel xs k v i) (fun _ i => (intOf i + 1).toNat)
          case atStart => exact ⟨k + 1, Nat.le_refl _, by go_num, by simp [horner]⟩
          case round =>
            obtain ⟨j, hj, rfl, rfl⟩ := hrel
            by_cases hj0 : 0 < j
            · obtain ⟨i, rfl⟩ : ∃ i, j = i + 1 := ⟨j - 1, by omega⟩
              clear hck
              have hci := HCL.out i (by omega)
              unfold bv at hci
              have h255 := HT.out i
              generalize hh : horner xs (i + 1) (k + 1 - (i + 1)) % 18446744073709551616 = q at *
              have q1 : (0 : Int) ≤ q := by omega
              have q2 : (q : Int) ≤ 18446744073709551615 := by omega
              have HH := Lib.hid hh; clear hh
              have ei : (((i + 1 : Nat) : Int) - 1) = (i : Int) := by omega
              simp only [ei]
              clear ei
              have ea : IntKind.u64.wrap (IntKind.u64.wrap ((q : Int) * 128) + (Pl.nth xs i : Int) % 128) = ((horner xs i (k + 1 - i) % 18446744073709551616 : Nat) : Int) := by
                have e1 : k + 1 - i = (k + 1 - (i + 1)) + 1 := by omega
                have := HH.out
                rw [IntKind.wrap_u64, IntKind.wrap_u64, e1, horner]
                generalize horner xs (i + 1) (k + 1 - (i + 1)) = z at *
                omega
              have EA := Lib.hid ea; clear ea
              go_wp2
              go_round
              case rel => exact ⟨i, by omega, rfl, by rw [EA.out]⟩
              case measure => simp [intOf]
            · obtain rfl : j = 0 := by omega
              have hv : horner xs 0 (k + 1 - 0) = Pl.val (xs.take (k + 1)) := by
                have := horner_val xs 0 (k + 1) (by rw [HL.out]; omega)
                simpa using this
              rw [hv]
              clear hv
              have hys : (xs.take (k + 1)).length = k + 1 := by rw [List.length_take, HL.out]; omega
              obtain ⟨m, hmm⟩ : ∃ m, Pl.val (xs.take (k + 1)) % 18446744073709551616 = m := ⟨_, rfl⟩
              have hm2 : m < 18446744073709551616 := by omega
              have CV := Lib.hid (fun w' (hb : Below w.heap.size w w') => conv_slc ((hs.out.take_ (u := k + 1) (by omega)).below hb))
              have C1 := Lib.hid (fun w => rput_any m w hm2)
              rw [hmm]
              have HM := Lib.hid hmm; clear hmm
              have HY := Lib.hid hys; clear hys
              have HM2 := Lib.hid hm2; clear hm2
              have YL := Lib.hid (fun x (hx : x ∈ xs.take (k + 1)) => Pl.lt_of_nth HT.out x (List.mem_of_mem_take hx))
              clear hck
              generalize hyd : xs.take (k + 1) = ys at *
              have HYD := Lib.hid hyd; clear hyd
              have k1 : (0 : Int) ≤ (k : Int) + 1 := by omega
              have k2 : (k : Int) + 1 ≤ (cap : Int) := by omega
              have k3 : IntKind.i64.wrap ((k : Int) + 1) = (k : Int) + 1 := IntWalk.i64_in _ ⟨by omega, by omega⟩
              have k4 : ((k : Int) + 1).toNat = k + 1 := by omega
              have PL := Lib.hid (Pl.put_lt HM2.out)
              obtain ⟨r, hr⟩ : ∃ r, decide (Pl.put m = ys) = r := ⟨_, rfl⟩
              have hst := str_eq PL.out YL.out
              rw [hr] at hst
              have hres : Pl.take xs = if r then (m, k + 1, 0) else (0, 0, 3) := by
                cases r
                · exact Pl.rtake_false (m := m) HT.out V.out (by rw [HYD.out]; exact HM.out) (by rw [HYD.out]; exact of_decide_eq_false hr)
                · exact Pl.rtake_true (m := m) HT.out V.out (by rw [HYD.out]; exact HM.out) (by rw [HYD.out]; exact of_decide_eq_true hr)
              have RES := Lib.hid hres; clear hres hr
              go_wp2
              have cv0 := CV.out w.drew (Below.refl _ _).drew
              go_region_with (go_at_call 42; refine (C1.out _).mono ?_; rintro e w1 ⟨A1, c1, rfl, hown1, hb1⟩; have t1 := conv_slc (slc_of_own hown1 PL.out); have hb2 := (Below.refl w.heap.size w).drew.trans hb1; have cv1 := CV.out w1 hb2)
              all_goals clear t1 cv0 cv1 hown1
              all_goals cases r
              all_goals go_wp2
              all_goals go_ret3
              all_goals exact ⟨by rw [RES.out]; rfl, hb2⟩
        · go_wp2
          go_round
          case rel => exact ⟨k + 1, by omega, by go_num, fun j hj => by rcases Nat.lt_succ_iff_lt_or_eq.1 hj with h | rfl; exact HB.out j h; exact hsm⟩
          case measure => simp [intOf]; omega
      · have hkk : k = 10 := by omega
        have e := Pl.vlen_none xs (fun j h1 h2 => hb j (by rw [HL.out] at h2; omega))
        have HB := Lib.hid hb; clear hb
        have HE := Lib.hid e; clear e
        subst hkk
        have et : Pl.take xs = (0, 0, if n < 10 then 2 else 3) := by unfold Pl.take; rw [if_pos HE.out, HL.out]
        have ET := Lib.hid et; clear et
        go_wp2
        go_ret3
        exact ⟨by rw [ET.out, if_neg (by omega)]; rfl, Below.refl _ _⟩
end Go.Proofs.Ythgfbnkggdlokaa
