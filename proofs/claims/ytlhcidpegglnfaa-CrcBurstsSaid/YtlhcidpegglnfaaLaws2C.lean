/-
  The walk of CrcLinear.
-/
import Derived.Test.YtlhcidpegglnfaaLaws2A
import Derived.Lib.SmallJoins
import Derived.Laws.AppendOwn
namespace Go.Proofs.Ytlhcidpegglnfaa
open Go.RowKit

/-- Three rows together, bit by bit. -/
def xor3 : List Nat → List Nat → List Nat → List Nat
  | a :: x, b :: y, c :: z => (a ^^^ b ^^^ c) :: xor3 x y z
  | _, _, _ => []
theorem xor3_len : ∀ (x y z : List Nat), y.length = x.length → z.length = x.length → (xor3 x y z).length = x.length
  | [], y, z, h1, h2 => by
    have : y = [] := List.eq_nil_of_length_eq_zero h1
    subst this; rfl
  | a :: x, [], z, h1, _ => by simp at h1
  | a :: x, b :: y, [], _, h2 => by simp at h2
  | a :: x, b :: y, c :: z, h1, h2 => by simp [xor3, xor3_len x y z (by simpa using h1) (by simpa using h2)]
theorem xor3_nth : ∀ (x y z : List Nat) (k : Nat), y.length = x.length → z.length = x.length → k < x.length → Pl.nth (xor3 x y z) k = Pl.nth x k ^^^ Pl.nth y k ^^^ Pl.nth z k
  | [], y, z, k, _, _, hk => by simp at hk
  | a :: x, [], z, k, h1, _, _ => by simp at h1
  | a :: x, b :: y, [], k, _, h2, _ => by simp at h2
  | a :: x, b :: y, c :: z, 0, _, _, _ => rfl
  | a :: x, b :: y, c :: z, k + 1, h1, h2, hk => by
    have := xor3_nth x y z k (by simpa using h1) (by simpa using h2) (by simpa using hk)
    simpa [Pl.nth, xor3] using this
theorem xor3_lt (x y z : List Nat) : (∀ v ∈ x, v < 256) → (∀ v ∈ y, v < 256) → (∀ v ∈ z, v < 256) → ∀ v ∈ xor3 x y z, v < 256 := by
  induction x generalizing y z with
  | nil => intro _ _ _ v hv; simp [xor3] at hv
  | cons a x ih =>
    intro h1 h2 h3 v hv
    cases y with
    | nil => simp [xor3] at hv
    | cons b y =>
      cases z with
      | nil => simp [xor3] at hv
      | cons c z =>
        rw [xor3] at hv
        rcases List.mem_cons.1 hv with rfl | hv
        · exact Nat.xor_lt_two_pow (n := 8) (Nat.xor_lt_two_pow (n := 8) (h1 a (by simp)) (h2 b (by simp))) (h3 c (by simp))
        · exact ih y z (fun v h => h1 v (by simp [h])) (fun v h => h2 v (by simp [h])) (fun v h => h3 v (by simp [h])) v hv
theorem xor3_le (x y z : List Nat) : y.length = x.length → z.length = x.length → (∀ v ∈ x, v < 256) → (∀ v ∈ y, v < 256) → (∀ v ∈ z, v < 256) → Cr.le (xor3 x y z) = Cr.le x ^^^ Cr.le y ^^^ Cr.le z := by
  induction x generalizing y z with
  | nil =>
    intro h1 h2 _ _ _
    obtain rfl : y = [] := List.eq_nil_of_length_eq_zero h1
    obtain rfl : z = [] := List.eq_nil_of_length_eq_zero h2
    rfl
  | cons a x ih =>
    intro h1 h2 ha hb hc
    cases y with
    | nil => simp at h1
    | cons b y =>
      cases z with
      | nil => simp at h2
      | cons c z =>
        have ih := ih y z (by simpa using h1) (by simpa using h2) (fun v h => ha v (by simp [h])) (fun v h => hb v (by simp [h])) (fun v h => hc v (by simp [h]))
        have a1 := ha a (by simp)
        have b1 := hb b (by simp)
        have c1 := hc c (by simp)
        have e : ∀ v q, v < 256 → v + 256 * q = 2 ^ 8 * q ^^^ v := fun v q hv => by rw [← Cr.add_xor (k := 8) hv]; omega
        rw [xor3, Cr.le_cons, Cr.le_cons, Cr.le_cons, Cr.le_cons, ih]
        have abc : a ^^^ b ^^^ c < 256 := Nat.xor_lt_two_pow (n := 8) (Nat.xor_lt_two_pow (n := 8) a1 b1) c1
        rw [e _ _ abc, e _ _ a1, e _ _ b1, e _ _ c1]
        generalize Cr.le x = X
        generalize Cr.le y = Y
        generalize Cr.le z = Z
        have d : 2 ^ 8 * (X ^^^ Y ^^^ Z) = 2 ^ 8 * X ^^^ 2 ^ 8 * Y ^^^ 2 ^ 8 * Z := by
          have h1 := @Nat.shiftLeft_xor_distrib 8 (X ^^^ Y) Z
          have h2 := @Nat.shiftLeft_xor_distrib 8 X Y
          simp only [Nat.shiftLeft_eq] at h1 h2
          rw [Nat.mul_comm (2 ^ 8), h1, h2, Nat.mul_comm X, Nat.mul_comm Y, Nat.mul_comm Z]
        rw [d]
        generalize 2 ^ 8 * X = p
        generalize 2 ^ 8 * Y = q
        generalize 2 ^ 8 * Z = r
        apply Nat.eq_of_testBit_eq
        intro i
        simp only [Nat.testBit_xor]
        cases p.testBit i <;> cases q.testBit i <;> cases r.testBit i <;> cases a.testBit i <;> cases b.testBit i <;> cases c.testBit i <;> rfl

/-- So many of the new bytes are laid. -/
def LinRel (g m : Nat) (ts : List Nat) (W : World) (v12 : Value) (wr : World) : Prop :=
  ∃ k : Nat, k ≤ m ∧ v12 = .int .i64 k ∧ wr.heap[g]? = some (.cells ((ts.take k ++ List.replicate (m - k) 0).map bv).toArray 5 (0, 0)) ∧ Below g W wr

theorem lin_step (ts : List Nat) (m k : Nat) (hl : ts.length = m) (hk : k < m) : ((ts.take k ++ List.replicate (m - k) 0).map bv).set k (bv (Pl.nth ts k)) = (ts.take (k + 1) ++ List.replicate (m - (k + 1)) 0).map bv := by
  have e : m - k = (m - (k + 1)) + 1 := by omega
  have hk2 : k < ts.length := by omega
  have hlen : (ts.take k).length = k := by rw [List.length_take]; omega
  rw [← List.map_set]
  congr 1
  rw [e, List.replicate_succ, List.take_succ_eq_append_getElem hk2, List.set_append_right k _ (by omega), hlen, Nat.sub_self, List.set_cons_zero, List.append_assoc]
  congr 1
  simp [Pl.nth, hk2]
theorem lin_at (ts : List Nat) (m k : Nat) (hl : ts.length = m) (hk : k < m) : ((ts.take k ++ List.replicate (m - k) 0).map bv)[k]? = some (.int .u8 0) := by
  have hlen : (ts.take k).length = k := by rw [List.length_take]; omega
  rw [List.getElem?_map, List.getElem?_append_right (by omega), hlen, Nat.sub_self]
  have e : m - k = (m - (k + 1)) + 1 := by omega
  rw [e, List.replicate_succ]
  rfl

/-- A row that is filled with b, as far as it goes, and with noughts behind it. -/
def fillTo (m : Nat) (b : List Nat) : List Nat := b.take m ++ (List.replicate m 0).drop b.length
theorem fillTo_len (m : Nat) (b : List Nat) : (fillTo m b).length = m := by simp [fillTo]; omega
theorem fillTo_lt (m : Nat) (b : List Nat) (h : ∀ x ∈ b, x < 256) : ∀ x ∈ fillTo m b, x < 256 := by
  intro x hx
  rcases List.mem_append.1 hx with hx | hx
  · exact h x (List.mem_of_mem_take hx)
  · have := List.eq_of_mem_replicate (List.mem_of_mem_drop hx); omega

set_option maxRecDepth 100000 in
set_option maxHeartbeats 2000000 in
theorem law_linear (A1 A2 A3 : Option Addr) (n1 cap1 n2 cap2 n3 cap3 : Nat) (xs1 xs2 xs3 : List Nat) (w : World) (hs1 : Slc w A1 n1 cap1 xs1) (hs2 : Slc w A2 n2 cap2 xs2) (hs3 : Slc w A3 n3 cap3 xs3) :
    Calls Try.prog 7 #[.slice A1 n1 cap1, .slice A2 n2 cap2, .slice A3 n3 cap3] w fun e w' => e = .returned (.bool true) ∧ Below w.heap.size w w' := by
  have FEW1 := Lib.hid (fun w => few_any A1 n1 cap1 w hs1.2.1 hs1.2.2.1)
  obtain ⟨m, hm⟩ : ∃ m, min n1 300 = m := ⟨_, rfl⟩
  have S1 := Lib.hid (hs1.take_ (u := m) (by omega))
  have S2 := Lib.hid hs2
  have S3 := Lib.hid hs3
  rw [hm] at FEW1
  have m300 : m ≤ 300 := by omega
  clear hm hs1 hs2 hs3
  generalize xs1.take m = x at *
  have hx := S1.out.1
  obtain ⟨y, hy⟩ : ∃ y, fillTo m xs2 = y := ⟨_, rfl⟩
  obtain ⟨z, hz⟩ : ∃ z, fillTo m xs3 = z := ⟨_, rfl⟩
  have ly : y.length = m := by rw [← hy]; exact fillTo_len _ _
  have lz : z.length = m := by rw [← hz]; exact fillTo_len _ _
  have X := Pl.lt_of_nth S1.out.2.2.2.1
  have Y : ∀ v ∈ y, v < 256 := by rw [← hy]; exact fillTo_lt _ _ (Pl.lt_of_nth S2.out.2.2.2.1)
  have Z : ∀ v ∈ z, v < 256 := by rw [← hz]; exact fillTo_lt _ _ (Pl.lt_of_nth S3.out.2.2.2.1)
  obtain ⟨t, ht⟩ : ∃ t, xor3 x y z = t := ⟨_, rfl⟩
  have lt : t.length = m := by rw [← ht, xor3_len _ _ _ (by omega) (by omega), hx]
  have T : ∀ v ∈ t, v < 256 := by rw [← ht]; exact xor3_lt _ _ _ X Y Z
  have TN := Lib.hid (fun k (hk : k < m) => by have := xor3_nth x y z k (by omega) (by omega) (by omega); rw [ht] at this; exact this)
  have SUM := Lib.hid (Cr.sum_three X Y Z T (by omega) (by omega) (by omega) (by rw [← ht]; exact xor3_le x y z (by omega) (by omega) X Y Z))
  have XN := S1.out.2.2.2.1
  have YN : ∀ j, Pl.nth y j < 256 := fun j => by
    unfold Pl.nth; rw [List.getD_eq_getElem?_getD]
    by_cases hj : j < y.length
    · rw [List.getElem?_eq_getElem hj]; exact Y _ (List.getElem_mem hj)
    · rw [List.getElem?_eq_none (by omega)]; simp
  have ZN : ∀ j, Pl.nth z j < 256 := fun j => by
    unfold Pl.nth; rw [List.getD_eq_getElem?_getD]
    by_cases hj : j < z.length
    · rw [List.getElem?_eq_getElem hj]; exact Z _ (List.getElem_mem hj)
    · rw [List.getElem?_eq_none (by omega)]; simp
  have U := Lib.hid (fun k => u8_xor_nat (Pl.nth x k) (Pl.nth y k) (XN k) (YN k))
  have V := Lib.hid (fun k => u8_xor_nat (Pl.nth x k ^^^ Pl.nth y k) (Pl.nth z k) (Nat.xor_lt_two_pow (n := 8) (XN k) (YN k)) (ZN k))
  have HX := Lib.hid hx
  have HY := Lib.hid hy
  have HZ := Lib.hid hz
  have LY := Lib.hid ly
  have LZ := Lib.hid lz
  have LT := Lib.hid lt
  have YL := Lib.hid Y
  have ZL := Lib.hid Z
  have TL := Lib.hid T
  clear hx hy hz ly lz lt ht X Y Z T XN YN ZN
  have C0 := Lib.hid (fun w => shown_any w)
  have CM := Lib.hid (fun A n cap xs w (h : Slc w A n cap xs) => sum_any A n cap xs w h)
  have hmk := fun W => run_make_zer W m (by omega)
  go_enter Try.func7, Try.ntmps7
  go_wp2_with fail
  refine (C0.out _).mono ?_
  rintro e w1 ⟨rfl, hb1⟩
  have B1 := Lib.hid hb1
  have hz1 := hb1.size
  clear hb1
  go_wp2_with fail
  refine (FEW1.out _).mono ?_
  rintro e w' ⟨rfl, rfl⟩
  have S2a := Lib.hid (((S2.out.below B1.out).below ((Below.refl w1.heap.size w1).alloc (Nat.le_refl _) (.cells (zer m) 5))).below ((Below.refl _ _).alloc (Nat.le_refl _) (.cells (zer m) 5)))
  go_wp2_with (refine wpList_copy_slc rfl (.tmp 22) (.tmp 23) rfl w1.heap.size m (List.replicate m 0) 5 rfl (by simp) (heap_alloc2_old _ _ _) A2 n2 cap2 xs2 rfl S2a.out ?_)
  intro w2 hg1 hgr
  have hg1' : w2.heap[w1.heap.size]? = some (.cells (y.map bv).toArray 5 (0, 0)) := by
    rw [hg1, ← HY.out]; simp [fillTo, S2.out.1]
  have hg2 : w2.heap[w1.heap.size + 1]? = some (.cells ((List.replicate m 0).map bv).toArray 5 (0, 0)) := by
    rw [hgr.block _ (by simp) (by simp), heap_alloc2_new]; rfl
  have hb2 := (((Below.refl w1.heap.size w1).alloc (Nat.le_refl _) (.cells (zer m) 5)).alloc (by simp) (.cells (zer m) 5)).grown hgr (by simp; omega) (fun k hk => by cases hk; exact Nat.le_refl _)
  have hz2 : w1.heap.size + 2 ≤ w2.heap.size := by have := hgr.size; simp at this; omega
  have B2 := Lib.hid (B1.out.trans (hb2.mono hz1))
  have S3a := Lib.hid (S3.out.below B2.out)
  have S1a := Lib.hid (S1.out.below B2.out)
  have G1 := Lib.hid hg1'
  have G2 := Lib.hid hg2
  clear hg1 hg1' hg2 hgr hb2
  go_wp2_with (refine wpList_copy_slc rfl (.tmp 25) (.tmp 26) rfl (w1.heap.size + 1) m (List.replicate m 0) 5 rfl (by simp) G2.out A3 n3 cap3 xs3 rfl S3a.out ?_)
  intro w3 hg2 hgr
  have hg2' : w3.heap[w1.heap.size + 1]? = some (.cells (z.map bv).toArray 5 (0, 0)) := by
    rw [hg2, ← HZ.out]; simp [fillTo, S3.out.1]
  have hg1 : w3.heap[w1.heap.size]? = some (.cells (y.map bv).toArray 5 (0, 0)) := by
    rw [hgr.block _ (by omega) (by simp), G1.out]
  have hz3 : w1.heap.size + 2 ≤ w3.heap.size := by have := hgr.size; omega
  have hb3 := (Below.refl (w1.heap.size + 1) w2).grown hgr (by omega) (fun k hk => by cases hk; exact Nat.le_refl _)
  have B3 := Lib.hid (B2.out.trans (hb3.mono (by omega)))
  have Sx := Lib.hid (S1.out.below B3.out)
  have Sy := Lib.hid (by have := slc_new y hg1 YL.out (by rw [LY.out]; omega); rw [LY.out] at this; exact this)
  have Sz := Lib.hid (by have := slc_new z hg2' ZL.out (by rw [LZ.out]; omega); rw [LZ.out] at this; exact this)
  clear hg1 hg2 hg2' hgr hb3
  go_wp2
  have hmin := S1.out.2.1
  have hmax := S1.out.2.2.1
  go_loopw [12] (fun v12 wr => LinRel w3.heap.size m t w3 v12 wr) (fun v12 _ => m - (intOf v12).toNat)
  case atStart => exact ⟨0, by omega, rfl, by rw [heap_alloc_new]; rfl, (Below.refl _ _).alloc (Nat.le_refl _) _⟩
  case round =>
    obtain ⟨k, hk, rfl, hg, hB⟩ := hrel
    by_cases hlt : k < m
    · have sx := Sx.out.below hB
      have sy := Sy.out.below hB
      have sz := Sz.out.below hB
      obtain ⟨bx, ox, rfl, _, hcx⟩ := sx.2.2.2.2 (by omega)
      obtain ⟨by_, oy, ey, _, hcy⟩ := sy.2.2.2.2 (by omega)
      obtain ⟨bz, oz, ez, _, hcz⟩ := sz.2.2.2.2 (by omega)
      obtain ⟨rfl, rfl⟩ : w1.heap.size = by_ ∧ 0 = oy := by simpa using ey
      obtain ⟨rfl, rfl⟩ : w1.heap.size + 1 = bz ∧ 0 = oz := by simpa using ez
      have cx := hcx k hlt
      have cy := hcy k hlt
      have cz := hcz k hlt
      rw [Nat.zero_add] at cy cz
      unfold bv at cx cy cz
      have ct : wr.cell? ⟨w3.heap.size, k, none⟩ = some (.int .u8 0) := by
        rw [cell_of_row wr _ _ _ _ _ hg]; simpa using lin_at t m k LT.out hlt
      have cf := Joins.unfrozen_of_block hg k
      have u := U.out k
      have v := V.out k
      have TK := Lib.hid (TN.out k hlt)
      have HG := Lib.hid hg
      have HB := Lib.hid hB
      clear sx sy sz hcx hcy hcz hg hB ey ez
      go_wp2
      refine wp_region_still_tail 17 (by kernel_rfl) (by kernel_rfl) ?_
      simp only [List.take_succ_cons, List.take_zero, List.drop_succ_cons, List.drop_zero]
      change wpStill _ _ wr.drew _ _ _
      repeat still_step
      refine wpStill_nil ?_
      change wpList _ _ _ _ _ wr.drew
      go_wp2
      go_roundw
      case rel =>
        refine ⟨k + 1, by omega, by go_num, ?_, (HB.out.setCell (Nat.le_refl _) _).drew⟩
        have hs := Joins.block_setCell HG.out (i := k) (.int .u8 ((Pl.nth x k ^^^ Pl.nth y k ^^^ Pl.nth z k : Nat) : Int))
        have e := lin_step t m k LT.out hlt
        rw [TK.out] at e
        unfold bv at e
        simp only [List.setIfInBounds_toArray] at hs
        show (wr.setCell _ _).heap[w3.heap.size]? = _
        rw [hs]
        exact congrArg (fun l => some (Obj.cells (List.toArray l) 5 (0, 0))) e
      case measure => simp [intOf]; omega
    · obtain rfl : k = m := by omega
      have hbF := Lib.hid (B3.out.trans (hB.mono (by have := B3.out.size; omega)))
      have lt := LT.out
      rw [Nat.sub_self, List.replicate_zero, List.append_nil, List.take_of_length_le (by omega)] at hg
      have St := Lib.hid (by have := slc_new t hg TL.out (by omega); rw [lt] at this; exact this)
      have Xx := Lib.hid (Sx.out.below hB)
      have Xy := Lib.hid (Sy.out.below hB)
      have Xz := Lib.hid (Sz.out.below hB)
      clear hg hB
      have x1 := Lib.hid (u32_xor_nat (Cr.sum x) (Cr.sum y) (Cr.sum_lt x) (Cr.sum_lt y))
      have x2 := Lib.hid (u32_xor_nat (Cr.sum x ^^^ Cr.sum y) (Cr.sum z) (Cr.xor_lt (Cr.sum_lt x) (Cr.sum_lt y)) (Cr.sum_lt z))
      rw [SUM.out] at x2
      go_wp2_with fail
      refine (CM.out _ _ _ _ _ Xx.out).mono ?_
      rintro e w' ⟨rfl, rfl⟩
      go_wp2_with fail
      refine (CM.out _ _ _ _ _ Xy.out).mono ?_
      rintro e w' ⟨rfl, rfl⟩
      have x1' := x1.out
      go_wp2_with fail
      refine (CM.out _ _ _ _ _ Xz.out).mono ?_
      rintro e w' ⟨rfl, rfl⟩
      have x2' := x2.out
      go_wp2_with fail
      refine (CM.out _ _ _ _ _ St.out).mono ?_
      rintro e w' ⟨rfl, rfl⟩
      go_wp2
      go_ret
      exact ⟨rfl, hbF.out⟩
end Go.Proofs.Ytlhcidpegglnfaa
