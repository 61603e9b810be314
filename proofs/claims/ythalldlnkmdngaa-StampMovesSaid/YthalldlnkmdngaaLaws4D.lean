/-
  The walk of StampMoves.
-/
import Derived.Test.YthalldlnkmdngaaLaws4C
import Derived.Deep.RegionLaw
namespace Go.Proofs.Ythalldlnkmdngaa
open Go.RowKit
attribute [local go_sem ↓] Go.wp_at_zero Go.wp_at_succ

/-- However a row is turned, the same one is its latest. -/
theorem Stp.mx_turn (xs : List Stp) (k : Nat) : mx (xs.drop k ++ xs.take k) = mx xs := by
  rcases xs.eq_nil_or_concat with rfl | ⟨_, _, _⟩
  · simp
  rename_i h
  have h0 : 0 < xs.length := by rw [h]; simp
  obtain ⟨i, hi, e⟩ := mx_is h0
  have hm : ∀ x, x ∈ xs.drop k ++ xs.take k ↔ x ∈ xs := fun x => by
    rw [List.mem_append, or_comm, ← List.mem_append, List.take_append_drop]
  refine mx_eq ?_ fun j hj => ?_
  · exact mem_nth ((hm _).2 (by rw [e]; exact nth_mem hi))
  · obtain ⟨q, hq, e2⟩ := mem_nth ((hm _).1 (nth_mem hj))
    rw [← e2]; exact mx_max hq

set_option maxRecDepth 100000 in
set_option maxHeartbeats 1000000 in
theorem law_moves (A : Option Addr) (n cap : Nat) (xs : List Stp) (at0 : Nat) (w : World) (hx : Sl w 2 A n cap (Stp.flat xs)) (hat : at0 < 256) :
    Calls Try.prog 6 #[.slice A n cap, .int .u8 at0] w fun e w' => e = .returned (.bool true) ∧ Below w.heap.size w w' := by
  have C0 := Lib.hid (fun w => shown_any w)
  have FX := Lib.hid (fun w => few_val A n cap w hx.2.1)
  have SX := Lib.hid (few_stp hx)
  have hlx : (xs.take 30).length = min n 30 := by have := hx.1; rw [Stp.flat_length] at this; rw [List.length_take]; omega
  clear hx
  have nx : min n 30 ≤ 30 := Nat.min_le_right _ _
  generalize xs.take 30 = us at *
  rw [← hlx] at FX SX nx
  clear hlx
  have CA := Lib.hid (fun A cap xs w h => last_any A cap xs w h)
  have ES := Lib.hid elemS
  have hcap : us.length ≤ cap := SX.out.2.1
  have hcap63 : cap ≤ 9223372036854775807 := SX.out.2.2.1
  unfold Stp.val at *
  go_enter Try.func6, Try.ntmps6
  go_wp2_with fail
  refine (C0.out _).mono ?_
  rintro e w1 ⟨rfl, hb1⟩
  have U1 := Lib.hid (show Lex.Up w w1 from hb1); clear hb1
  go_wp2_with fail
  refine (FX.out _).mono ?_
  rintro e w2 ⟨rfl, hb2⟩
  have U2 := Lib.hid (U1.out.trans hb2); clear hb2 U1
  by_cases hx0 : 0 < us.length
  · have n0 : ((us.length : Int) == 0) = false := beq_eq_false_iff_ne.2 (by omega)
    have hi0 : (us.length : Int) ≠ 0 := by omega
    have hm : (at0 : Int).tmod us.length = ((at0 % us.length : Nat) : Int) := (Int.ofNat_tmod at0 us.length).symm
    have a0 : (0 : Int) ≤ at0 := by omega
    have a1 : (at0 : Int) ≤ 255 := by omega
    have hml : at0 % us.length < us.length := Nat.mod_lt _ hx0
    generalize at0 % us.length = k at *
    obtain ⟨b, off, rfl, hbl, hcell⟩ := SX.out.2.2.2 hx0
    clear hcell
    have hk0 : (k : Int) ≤ us.length := by omega
    have hk1 : (k : Int) ≤ cap := by omega
    go_wp2
    have hck : ¬ cap = k := by omega
    have u3 : Lex.Up w (w2.alloc (.cells #[] 23)).drew := (U2.out.alloc U2.out.size _).drew
    have O0 := Lib.hid (show ((w2.alloc (.cells #[] 23)).drew).ownsRow w.heap.size 23 2 (.slice (some ⟨w2.heap.size, 0, none⟩) 0 0) 0 [] from (World.ownsRow_made (base := w.heap.size) (e := 23) (size := 2) w2 #[] 0 U2.out.size (Nat.zero_le _) rfl).drew)
    have S1 := SX.out.drop (Nat.le_of_lt hml)
    rw [Stp.flat_drop] at S1
    have S2 := SX.out.take (Nat.le_of_lt hml)
    rw [Stp.flat_take] at S2
    have HS1 := Lib.hid S1; have HS2 := Lib.hid S2; have U3 := Lib.hid u3
    clear S1 S2 u3
    go_region_law (first
      | (refine ES.out.step_append (by rfl) (.tmp 23) (.tmp 26) rfl w.heap.size (.slice (some ⟨w2.heap.size, 0, none⟩) 0 0) 0 [] (by rfl) O0.out (some ⟨b, off + k * 2, none⟩) (us.length - k) (cap - k) (Stp.flat (us.drop k)) (by rfl) (HS1.out.up U3.out) (Stp.flat_one _) (by omega) (by simp only [maxLen]; omega) U3.out.size ?_
         intro v6 w6 hown6 hg6
         have U6 := Lib.hid (up_grown U3.out O0.out hg6)
         have O6 := Lib.hid hown6
         clear hown6 hg6)
      | (refine ES.out.step_append (by rfl) (.tmp 27) (.tmp 30) rfl w.heap.size v6 (0 + (us.length - k)) ([] ++ Stp.flat (us.drop k)) (by rfl) O6.out (some ⟨b, off, none⟩) k cap (Stp.flat (us.take k)) (by rfl) (HS2.out.up U6.out) (Stp.flat_one _) (by omega) (by simp only [maxLen]; omega) U6.out.size ?_
         intro v7 w7 hown7 hg7
         have U7 := Lib.hid (up_grown U6.out O6.out hg7)
         have O7 := Lib.hid hown7
         clear hown7 hg7))
    have hown := O7.out
    rw [List.nil_append, ← Stp.flat_append, show 0 + (us.length - k) + k = us.length by omega] at hown
    obtain ⟨D, dap, rfl, SD⟩ := Sl.of_own hown
    have hlz : (us.drop k ++ us.take k).length = us.length := by simp; omega
    have MT := Lib.hid (Stp.mx_turn us k)
    generalize us.drop k ++ us.take k = zs at *
    have HD := Lib.hid SD
    have hz0 : 0 < zs.length := by omega
    obtain ⟨i, hi, e1, e2, e3⟩ := Stp.last_spec hx0
    obtain ⟨j, hj, f1, f2, f3⟩ := Stp.last_spec hz0
    have EI := Lib.hid e1; have EJ := Lib.hid f1; have E2 := Lib.hid e2; have F2 := Lib.hid f2
    clear e1 e2 e3 f1 f2 f3 hown SD O7 O6 U6 O0 U3 HS1 HS2
    have CZ := Lib.hid (fun A cap w (h : Sl w 2 A us.length cap (Stp.flat zs)) => by have := CA.out A cap zs w; rw [hlz] at this; exact this h)
    have HL := Lib.hid hlz; clear hlz
    go_wp2_with fail
    refine (CA.out (some ⟨b, off, none⟩) cap us w7 (SX.out.up U7.out)).mono ?_
    rintro e w8 ⟨rfl, hb8⟩
    have U8 := Lib.hid (U7.out.trans hb8); have HD8 := Lib.hid (HD.out.up hb8)
    clear hb8 U7 HD
    rw [EI.out]
    go_wp2_with fail
    refine (CZ.out D dap w8 HD8.out).mono ?_
    rintro e w9 ⟨rfl, hb9⟩
    have U9 := Lib.hid (U8.out.trans hb9); have HD9 := Lib.hid (HD8.out.up hb9)
    clear hb9 U8 HD8
    rw [EJ.out]
    obtain ⟨d, off2, rfl, hdl, hcell⟩ := HD9.out.2.2.2 hx0
    clear hcell
    go_wp2
    have ⟨a0, a1⟩ := stp_at SX.out U9.out hi
    have ⟨b0, b1⟩ := stp_at HD9.out (Lex.Up.refl w9) hj
    rw [E2.out] at a0 a1
    rw [F2.out, MT.out] at b0 b1
    have hq : ∀ w, _ := fun w => eq_two (Stp.mx us) (Stp.mx us) w
    rw [decide_eq_true rfl] at hq
    generalize Stp.mx us = x at *
    have hi' : (i : Int) < us.length := by omega
    have hj' : (j : Int) < us.length := by have := HL.out; omega
    go_quiet (fail)
    go_wp2
    go_ret
    exact ⟨rfl, below_dN U9.out _⟩
  · have hu0 : us = [] := List.eq_nil_of_length_eq_zero (by omega)
    subst hu0
    go_wp2
    go_ret
    exact ⟨rfl, U2.out⟩
end Go.Proofs.Ythalldlnkmdngaa
