/-
  The walk of CrcBursts.
-/
import Derived.Test.YtlhcidpegglnfaaLaws2C
namespace Go.Proofs.Ytlhcidpegglnfaa
open Go.RowKit

/-- The row of turned bytes: the first i bits of the mask are turned, from bit k on. -/
def BurRel (g B : Nat) (s : List Nat) (L c4 k mask : Nat) (w3 : World) (v15 : Value) (wr : World) : Prop :=
  ∃ (i : Nat) (ts : List Nat), i ≤ 32 ∧ k + i ≤ 8 * L ∧ v15 = .int .i64 i ∧ ts.length = L ∧ (∀ x ∈ ts, x < 256) ∧ Cr.le ts = Cr.le s ^^^ 2 ^ k * (mask % 2 ^ i) ∧
    wr.ownsRow B 5 1 (.slice (some ⟨g, 0, none⟩) L c4) L (ts.map bv) ∧ Below B w3 wr
theorem shr_bit (mask i : Nat) (h : mask < 4294967296) : bits BinOp.and IntKind.u32 ((mask : Int) / 2 ^ i) 1 = ((mask / 2 ^ i % 2 : Nat) : Int) := by
  have e : (mask : Int) / 2 ^ i = ((mask / 2 ^ i : Nat) : Int) := by simp [Int.natCast_ediv]
  have hlt : mask / 2 ^ i < 4294967296 := Nat.lt_of_le_of_lt (Nat.div_le_self _ _) h
  have := u32_and_nat (mask / 2 ^ i) 1 hlt (by omega)
  rw [Nat.and_one_is_mod] at this
  rw [e]; exact this

theorem mask_step (k mask i : Nat) (h : mask / 2 ^ i % 2 = 1) : 2 ^ k * (mask % 2 ^ (i + 1)) = 2 ^ k * (mask % 2 ^ i) ^^^ 2 ^ (k + i) := by
  rw [Nat.mod_pow_succ, h, Nat.add_comm, Cr.add_xor (Nat.mod_lt _ (Nat.two_pow_pos i)), Nat.xor_comm, Nat.mul_one]
  have h1 := @Nat.shiftLeft_xor_distrib k (mask % 2 ^ i) (2 ^ i)
  simp only [Nat.shiftLeft_eq] at h1
  rw [Nat.mul_comm (2 ^ k), h1, Nat.mul_comm _ (2 ^ k), Nat.pow_add, Nat.mul_comm (2 ^ i)]

set_option maxRecDepth 100000 in
set_option maxHeartbeats 2000000 in
theorem law_bursts (A : Option Addr) (n cap : Nat) (xs : List Nat) (at_ : Int) (mask : Nat) (w : World) (hs : Slc w A n cap xs) (hmask : mask < 4294967296) :
    Calls Try.prog 5 #[.slice A n cap, .int .i64 at_, .int .u32 mask] w fun e w' => e = .returned (.bool true) ∧ Below w.heap.size w w' := by
  have FEW := Lib.hid (fun w => few_any A n cap w hs.2.1 hs.2.2.1)
  obtain ⟨m, hm⟩ : ∃ m, min n 300 = m := ⟨_, rfl⟩
  have S := Lib.hid (hs.take_ (u := m) (by omega))
  rw [hm] at FEW
  have m300 : m ≤ 300 := by omega
  clear hm hs
  generalize xs.take m = ys at *
  have C0 := Lib.hid (fun w => shown_any w)
  have CS := Lib.hid (fun w (h : Slc w A m cap ys) => seal_any A m cap ys w h (by omega))
  have CO := Lib.hid (fun A n cap xs w (h : Slc w A n cap xs) (hn : n ≤ 1000) => open_val A n cap xs w h hn)
  have YL := Lib.hid (Pl.lt_of_nth S.out.2.2.2.1)
  have SL := Lib.hid (Cr.sealed_lt YL.out)
  have OS := Lib.hid (Cr.opens_sealed ys)
  have OT : Hid (Cr.opened (Cr.sealed ys) = ys) := by unfold Cr.opened; rw [OS.out]; exact Cr.sealed_take ys
  have hL := Cr.sealed_len ys
  rw [S.out.1] at hL
  generalize Cr.sealed ys = s at *
  obtain ⟨L, hLd⟩ : ∃ L, s.length = L := ⟨_, rfl⟩
  have LS := Lib.hid hLd
  have hL2 : L = m + 4 := by omega
  clear hL hLd
  have hne : ((L : Int) != (m : Int) + 4) = false := by simp; omega
  have hst := str_eq YL.out YL.out
  rw [decide_eq_true rfl] at hst
  obtain ⟨q, hq⟩ : ∃ q, at_.tmod (8 * (L : Int)) = q := ⟨_, rfl⟩
  have q1 : -(8 * (L : Int)) < q := by rw [← hq]; exact Int.lt_tmod_of_pos at_ (by omega)
  have q2 : q < 8 * (L : Int) := by rw [← hq]; exact Int.tmod_lt_of_pos _ (by omega)
  have L0 : 4 ≤ L := by omega
  have L1 : L ≤ 304 := by omega
  have HL2 := Lib.hid hL2
  clear hL2
  obtain ⟨k, hk⟩ : ∃ k : Nat, q % (8 * (L : Int)) = k := ⟨(q % (8 * (L : Int))).toNat, by have := Int.emod_nonneg q (b := 8 * (L : Int)) (by omega); omega⟩
  have k1 : k < 8 * L := by have := Int.emod_lt_of_pos q (b := 8 * (L : Int)) (by omega); omega
  have SW := Lib.hid (fun i => shr_bit mask i hmask)
  clear hmask
  go_enter Try.func5, Try.ntmps5
  go_wp2_with fail
  refine (C0.out _).mono ?_
  rintro e w1 ⟨rfl, hb1⟩
  have B1 := Lib.hid hb1
  have S1 := Lib.hid (S.out.below hb1)
  clear hb1
  go_wp2_with fail
  refine (FEW.out _).mono ?_
  rintro e w' ⟨rfl, rfl⟩
  go_wp2_with fail
  refine (CS.out _ S1.out).mono ?_
  rintro e w2 ⟨A2, c2, rfl, hown2, hb2⟩
  have s2 := slc_of_own hown2 SL.out
  rw [LS.out] at s2
  rw [LS.out]
  have S2 := Lib.hid s2
  have B2 := Lib.hid (B1.out.trans (hb2.mono B1.out.size))
  have Y2 := Lib.hid (S1.out.below hb2)
  clear hown2 s2 hb2
  go_wp2_with fail
  refine (CO.out _ _ _ _ _ S2.out (by omega)).mono ?_
  rintro e w3 ⟨A3, c3, rfl, s3, hb3⟩
  rw [OT.out] at s3
  rw [OT.out, OS.out]
  have S3 := Lib.hid s3
  have B3 := Lib.hid (B2.out.trans (hb3.mono B2.out.size))
  have Y3 := Lib.hid (Y2.out.below hb3)
  have S2b := Lib.hid (S2.out.below hb3)
  clear s3 hb3
  have cv1 := conv_slc S3.out
  have cv2 := conv_slc Y3.out
  have hz3 := B3.out.size
  have O0 := Lib.hid (World.ownsRow_made (base := w3.heap.size) (e := 5) (size := 1) w3 #[] 0 (Nat.le_refl _) (Nat.zero_le _) rfl)
  have S4 := Lib.hid (S2b.out.below ((Below.refl w3.heap.size w3).alloc (Nat.le_refl _) (.cells #[] 5)))
  go_wp2_with (at_builtin; refine wpList_append_slc rfl _ _ rfl w3.heap.size (.slice (some ⟨w3.heap.size, 0, none⟩) 0 0) 0 [] rfl O0.out A2 L c2 s rfl S4.out (by omega) (by simp) ?_)
  intro v4 w4 hown4 hg4
  obtain ⟨g, c4, rfl⟩ := Joins.ownsRow_form hown4 (by omega)
  have O4 := Lib.hid (show w4.ownsRow w3.heap.size 5 1 (.slice (some ⟨g, 0, none⟩) L c4) L (s.map bv) by simpa using hown4)
  have B4 := Lib.hid (((Below.refl w3.heap.size w3).alloc (Nat.le_refl _) (.cells #[] 5)).grown hg4 (by simp) (fun k hk => by simp [Value.ownBlock] at hk; omega))
  have hcap : L ≤ c4 ∧ c4 ≤ 9223372036854775807 := by
    obtain ⟨_, _, e, h⟩ := slc_of_own2 O4.out SL.out
    simp only [Value.slice.injEq] at e
    obtain ⟨_, _, rfl⟩ := e
    exact ⟨h.2.1, h.2.2.1⟩
  obtain ⟨hc1, hc2⟩ := hcap
  clear hown4 hg4
  go_wp2
  go_loopw [15] (fun v15 wr => BurRel g w3.heap.size s L c4 k mask w3 v15 wr) (fun v15 _ => 32 - (intOf v15).toNat)
  case atStart => exact ⟨0, s, by omega, by omega, rfl, LS.out, SL.out, by simp [Nat.mod_one], O4.out, B4.out⟩
  case round =>
    obtain ⟨i, ts, hi, hki, rfl, hl, ht, hle, hown, hB⟩ := hrel
    by_cases hlt : i < 32 ∧ k + i < 8 * L
    · obtain ⟨i32, kL⟩ := hlt
      have kLi : decide ((k : Int) + i < 8 * L) = true := by simp; omega
      have sw := SW.out i
      rcases Nat.mod_two_eq_zero_or_one (mask / 2 ^ i) with hb | hb
      · rw [hb] at sw
        have HLE := Lib.hid hle
        have HO := Lib.hid hown
        have HT := Lib.hid ht
        have HB := Lib.hid hB
        have HL := Lib.hid hl
        have HBB := Lib.hid hb
        clear hle hown ht hB hl hb
        go_wp2
        go_roundw
        case rel =>
          refine ⟨i + 1, ts, by omega, by omega, by go_num, HL.out, HT.out, ?_, HO.out, HB.out⟩
          rw [Nat.mod_pow_succ, HBB.out, Nat.mul_zero, Nat.add_zero]
          exact HLE.out
        case measure => simp [intOf]; omega
      · rw [hb] at sw
        obtain ⟨j, hj⟩ : ∃ j, (k + i) / 8 = j := ⟨_, rfl⟩
        obtain ⟨b, hbd⟩ : ∃ b, (k + i) % 8 = b := ⟨_, rfl⟩
        have jL : j < L := by omega
        have b8 : b < 8 := by omega
        have hji : ((k : Int) + i) / 8 = (j : Int) := by omega
        have hbi : ((k : Int) + i) % 8 = (b : Int) := by omega
        have jc : j < ts.length := by omega
        have c1 := hown.cellAt j (by omega)
        have c1' : wr.cell? ⟨g, j, none⟩ = some (.int .u8 (Pl.nth ts j)) := by rw [c1]; simp [Pl.nth, jc, bv]
        have f1 := hown.frozenAt j
        have p8 : 2 ^ b < 256 := by have := Nat.pow_lt_pow_right (a := 2) (by omega) b8; omega
        have x8 := u8_xor_nat (Pl.nth ts j) (2 ^ b) (by have := ht _ (List.getElem_mem jc); simpa [Pl.nth, jc] using this) p8
        have e2 : 8 * j + b = k + i := by omega
        have HLE := Lib.hid hle
        have HO := Lib.hid hown
        have HT := Lib.hid ht
        have HB := Lib.hid hB
        have HL := Lib.hid hl
        have HBB := Lib.hid hb
        have X8 := Lib.hid x8
        have P8 := Lib.hid p8
        have E2 := Lib.hid e2
        clear hle hown ht hB hl hb c1 x8 p8 e2 hj hbd
        go_wp2
        refine wp_region_still_tail 19 (by kernel_rfl) (by kernel_rfl) ?_
        simp only [List.take_succ_cons, List.take_zero, List.drop_succ_cons, List.drop_zero]
        change wpStill _ _ wr.drew _ _ _
        obtain ⟨p, hp⟩ : ∃ p : Nat, (p : Int) = (k : Int) + i := ⟨k + i, by omega⟩
        have g1 : IntKind.i64.wrap ((k : Int) + i) = (p : Int) := by rw [hp]; exact IntWalk.i64_in _ ⟨by omega, by omega⟩
        have g2 : (p : Int).tdiv 8 = (j : Int) := by rw [Int.tdiv_eq_ediv_of_nonneg (by omega)]; omega
        have g3 : (p : Int).tmod 8 = (b : Int) := by rw [Int.tmod_eq_emod_of_nonneg (by omega)]; omega
        have g4 : IntKind.i64.wrap (j : Int) = (j : Int) := IntWalk.i64_in _ ⟨by omega, by omega⟩
        have g5 : IntKind.i64.wrap (b : Int) = (b : Int) := IntWalk.i64_in _ ⟨by omega, by omega⟩
        clear hp hji hbi
        repeat still_step
        refine wpStill_nil ?_
        change wpList _ _ _ _ _ wr.drew
        go_wp2
        go_roundw
        case rel =>
          have pw : ((2 : Int) ^ b % 256) = ((2 ^ b : Nat) : Int) := by
            have := P8.out
            rw [show ((2 : Int) ^ b) = ((2 ^ b : Nat) : Int) by simp]
            generalize (2 : Nat) ^ b = z at this ⊢
            omega
          rw [pw, X8.out]
          have hst := HO.out.stored j (bv (Pl.nth ts j ^^^ 2 ^ b))
          rw [← List.map_set] at hst
          refine ⟨i + 1, ts.set j (Pl.nth ts j ^^^ 2 ^ b), by omega, by omega, by go_num, by rw [List.length_set]; exact HL.out, ?_, ?_, hst.1, (HB.out.setCell (p := ⟨g, j, none⟩) (HO.out.lt g rfl).1 _).drew⟩
          · intro x hx
            rcases List.mem_or_eq_of_mem_set hx with h | rfl
            · exact HT.out x h
            · exact Nat.xor_lt_two_pow (n := 8) (by have := HT.out _ (List.getElem_mem jc); simpa [Pl.nth, jc] using this) P8.out
          · have h1 := Cr.le_set ts j (2 ^ b) jc HT.out P8.out
            rw [mask_step k mask i HBB.out, ← Nat.xor_assoc, ← HLE.out, ← E2.out, Nat.pow_add]
            exact h1
        case measure => simp [intOf]; omega
    · have hB2 := Lib.hid (B3.out.trans (hB.mono hz3))
      obtain ⟨M, hM⟩ : ∃ M, mask % 2 ^ i = M := ⟨_, rfl⟩
      have M32 : M < 4294967296 := by
        have h1 : mask % 2 ^ i < 2 ^ i := Nat.mod_lt _ (Nat.two_pow_pos i)
        have h2 : 2 ^ i ≤ 2 ^ 32 := Nat.pow_le_pow_right (by omega) hi
        omega
      have hlL := LS.out
      have key : Cr.opens ts = true → ts = s := fun h => by
        have hz := Cr.burst (m := M) (k := k) SL.out ht (by omega) M32 (by rw [hle, hM]) (by omega) OS.out h
        rw [hM, hz, Nat.mul_zero, Nat.xor_zero] at hle
        exact Cr.le_inj s ts SL.out ht (by omega) hle
      have St := Lib.hid (by have := slc_of_own (xs := ts) (cap := c4) (A := some ⟨g, 0, none⟩) (by rw [hl]; exact hown) ht; rw [hl] at this; exact this)
      have Ss := Lib.hid (S2b.out.below hB)
      have KEY := Lib.hid key
      have HT := Lib.hid ht
      have HL := Lib.hid hl
      have C := Lib.hid (CO.out _ _ _ _ _ St.out (by omega))
      have hw : (i = 32 ∧ (i : Int) = 32) ∨ (i < 32 ∧ decide ((k : Int) + i < 8 * L) = false) := by
        rcases Nat.lt_or_ge i 32 with h | h
        · right; refine ⟨h, ?_⟩; simp; omega
        · left; omega
      clear hle hM hown hB ht hl key hlL hlt
      rcases hw with ⟨rfl, -⟩ | ⟨i32, kLi⟩
      all_goals
        go_wp2_with fail
        refine C.out.mono ?_
        rintro e w5 ⟨A5, c5, rfl, s5, hb5⟩
        have hB5 := Lib.hid (hB2.out.trans (hb5.mono hB2.out.size))
        have Su := Lib.hid (Ss.out.below hb5)
        have Sv := Lib.hid (St.out.below hb5)
        clear s5 hb5
        have d1 := conv_slc Su.out
        have d2 := conv_slc Sv.out
        by_cases heq : ts = s
        · have ho : Cr.opens ts = true := by rw [heq]; exact OS.out
          have hse := str_eq HT.out SL.out
          rw [decide_eq_true heq] at hse
          rw [ho]
          have HE := Lib.hid heq
          clear heq ho
          go_wp2
          go_ret
          exact ⟨rfl, hB5.out⟩
        · have ho : Cr.opens ts = false := by
            rcases h : Cr.opens ts with _ | _
            · rfl
            · exact absurd (KEY.out h) heq
          have hoe : Cr.opened ts = [] := by unfold Cr.opened; rw [ho]; rfl
          have hse := str_eq HT.out SL.out
          rw [decide_eq_false heq] at hse
          rw [ho, hoe]
          have HE := Lib.hid heq
          clear heq ho hoe
          go_wp2
          go_ret
          exact ⟨rfl, hB5.out⟩
end Go.Proofs.Ytlhcidpegglnfaa
