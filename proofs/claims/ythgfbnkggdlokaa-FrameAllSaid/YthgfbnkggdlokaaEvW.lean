/-
  The walks of event.words, and of what it hands back.
-/
import Derived.Test.YthgfbnkggdlokaaEvL
namespace Go.Proofs.Ythgfbnkggdlokaa
open Go.RowKit
set_option maxRecDepth 100000

theorem slc_mid {w : World} {b off n cap : Nat} {x : Nat} {ys : List Nat} (h : Slc w (some ⟨b, off, none⟩) n cap (x :: ys)) {k : Nat} (hk : k ≤ ys.length) : Slc w (some ⟨b, off + 1, none⟩) k (cap - 1) (ys.take k) := by
  obtain ⟨hl, hc, hm, hlt, hcell⟩ := h
  simp only [List.length_cons] at hl
  obtain ⟨b', off', e, hbl, hcl⟩ := hcell (by omega)
  obtain ⟨rfl, rfl⟩ : b = b' ∧ off = off' := by simpa using e
  have hn : ∀ j, j < k → Pl.nth (ys.take k) j = Pl.nth (x :: ys) (1 + j) := fun j hj => by
    rw [Pl.nth_take, if_pos hj, Nat.add_comm]
    simp [Pl.nth]
  refine ⟨by rw [List.length_take]; omega, by omega, by omega, fun j => ?_, fun h0 => ⟨b, off + 1, rfl, hbl, fun j hj => ?_⟩⟩
  · by_cases hj : j < k
    · rw [hn j hj]; exact hlt _
    · rw [Pl.nth_take, if_neg hj]; omega
  · rw [hn j hj, Nat.add_assoc]
    exact hcl (1 + j) (by omega)

set_option maxRecDepth 100000 in
set_option maxHeartbeats 2000000 in
theorem words1_any (bm bf bt : Nat) (most : Int) (gm : Nat) (ok : ByteArray → Int) (p : Addr) (A : Option Addr) (n cap : Nat) (xs : List Nat) (w : World)
    (hm : w.cell? ⟨bm, 0, none⟩ = some (.int .u8 most)) (hmay : w.cell? ⟨bf, 0, none⟩ = some (.func (.func gm) #[] #[])) (hto : w.cell? ⟨bt, 0, none⟩ = some (.pointer (some p)))
    (CM : ∀ s W, Calls Try.prog gm #[.string s] W fun x w' => x = .returned (.int .i64 (ok s)) ∧ Below W.heap.size W w') (EM : ∀ args w, (callFunc gm args).run Try.prog w = .ok (.enter gm args) w)
    (hp : ∃ old, w.cell? p = some old) (hf : w.frozen? p = false) (hs : Slc w A n cap xs) :
    Calls Try.prog 136 #[.slice A n cap, .pointer (some ⟨bm, 0, none⟩), .pointer (some ⟨bf, 0, none⟩), .pointer (some ⟨bt, 0, none⟩)] w fun x w' =>
      x = .returned (.tuple #[.int .i64 ((Fl.wrdR most ok xs).2.1 : Nat), .int .i64 ((Fl.wrdR most ok xs).2.2 : Nat)]) ∧ Wrote w w' p (Fl.wrdR most ok xs).2.2 (.string (Fl.wrdR most ok xs).1) := by
  obtain ⟨R, hR⟩ : ∃ R, Fl.wrdR most ok xs = R := ⟨_, rfl⟩
  rw [hR]
  have HR := Lib.hid hR; clear hR
  have CO := Lib.hid (fun p lo hi w => octet_any p lo hi w)
  have CM' := Lib.hid CM; clear CM
  have HS := Lib.hid hs; clear hs
  obtain ⟨old, hp⟩ := hp
  have lp : p.block < w.heap.size := World.block_lt_of_cell? w p hp
  have lm : bm < w.heap.size := World.block_lt_of_cell? w _ hm
  have lf : bf < w.heap.size := World.block_lt_of_cell? w _ hmay
  have lt : bt < w.heap.size := World.block_lt_of_cell? w _ hto
  have HP := Lib.hid hp; have HF := Lib.hid hf; have HM := Lib.hid hm; have HY := Lib.hid hmay; have HT := Lib.hid hto
  clear hp hf hmay hto
  have U0 := Lib.hid (show Lex.Up w (w.alloc (.cells #[.int .i64 0] 3)) from (Below.refl w.heap.size w).alloc (Nat.le_refl _) _)
  have B0 := Lib.hid (Blk.new w #[.int .i64 0] 3)
  go_enter Try.func136, Try.ntmps136
  go_wp2_with fail
  refine (CO.out _ 1 most _).mono ?_
  rintro x w2 ⟨F, rfl, hu, g, caps, rfl, eg, hc⟩
  have U2 := Lib.hid (U0.out.trans hu)
  have B2 := Lib.hid (B0.out.up hu)
  have HC := Lib.hid hc
  clear hu hc U0 B0 hm
  go_wp2_with fail
  refine (HC.out w2 A n cap xs (Keep.refl _ _ _) ⟨_, B2.out.cell (j := 0) rfl⟩ (B2.out.frozen 0) (HS.out.below U2.out)).mono ?_
  rintro x w3 ⟨rfl, w4, hu4, hw3⟩
  clear HC eg
  cases xs with
  | nil =>
    have U4 := Lib.hid (U2.out.trans hu4)
    have e : Fl.octR 1 most [] = (0, 0, 2) := rfl
    rw [e] at hw3 ⊢
    rw [if_neg (by decide)] at hw3
    subst hw3
    have HR2 := Lib.hid (show R = (⟨#[]⟩, 0, 2) from HR.out.symm)
    clear e hu4 HR
    go_wp2
    go_ret2
    rw [HR2.out]
    exact ⟨rfl, Wrote.bad U4.out (by decide)⟩
  | cons m ys =>
    obtain ⟨hl, hcn, hcm, hlt, hcell⟩ := HS.out
    have hn : n = ys.length + 1 := by rw [← hl]; simp
    subst hn
    obtain ⟨b, off, rfl, hbl, -⟩ := hcell (by omega)
    have hm2 : m < 256 := by have := hlt 0; simpa [Pl.nth] using this
    have e : Fl.octR 1 most (m :: ys) = if (m : Int) < 1 ∨ most < (m : Int) then (0, 0, 3) else (m, 1, 0) := rfl
    have e2 : Fl.wrdR most ok (m :: ys) = if (m : Int) < 1 ∨ most < (m : Int) then (⟨#[]⟩, 0, 3) else if ys.length < m then (⟨#[]⟩, 0, 2)
      else if ok (str (ys.take m)) ≠ 0 then (⟨#[]⟩, 0, 3) else (str (ys.take m), m + 1, 0) := rfl
    rw [e] at hw3 ⊢
    have hR := HR.out
    rw [e2] at hR
    clear e e2 hl hlt hcell HR
    by_cases h1 : (m : Int) < 1 ∨ most < (m : Int)
    · have U4 := Lib.hid (U2.out.trans hu4)
      rw [if_pos h1] at hw3 ⊢
      rw [if_pos h1] at hR
      have HR2 := Lib.hid hR.symm
      rw [if_neg (by decide)] at hw3
      subst hw3
      clear hu4 h1 hR
      go_wp2
      go_ret2
      rw [HR2.out]
      exact ⟨rfl, Wrote.bad U4.out (by decide)⟩
    rw [if_neg h1] at hw3 ⊢
    rw [if_neg h1] at hR
    rw [if_pos rfl] at hw3
    have B4 := Lib.hid (show Blk w3 w.heap.size #[.int .i64 (m : Nat)] 3 by
      have := (B2.out.up hu4).set 0 (.int .i64 (m : Nat))
      rw [hw3]; exact this)
    have U3 := Lib.hid (show Lex.Up w w3 by
      rw [hw3]; exact (U2.out.trans hu4).setCell (by simp) _)
    clear hw3 hu4 B2 U2
    have hm1 : 1 ≤ m := by omega
    clear h1
    have hL : w3.cell? ⟨w.heap.size, 0, none⟩ = some (.int .i64 (m : Nat)) := B4.out.cell rfl
    by_cases h2 : ys.length < m
    · rw [if_pos h2] at hR
      have HR2 := Lib.hid hR.symm
      clear hR
      have d2 : decide (((ys.length : Int) + 1) < 1 + (m : Int)) = true := by simp; omega
      go_wp2
      go_ret2
      rw [HR2.out]
      exact ⟨rfl, Wrote.bad U3.out (by decide)⟩
    rw [if_neg h2] at hR
    have HR := Lib.hid hR.symm
    clear hR
    have SM := Lib.hid (slc_mid (HS.out.below U3.out) (k := m) (by omega))
    have hcv := conv_slc SM.out
    have hyf : w3.cell? ⟨bf, 0, none⟩ = some (.func (.func gm) #[] #[]) := (U3.out.cell (p := ⟨bf, 0, none⟩) lf).trans HY.out
    clear SM HS
    obtain ⟨s, hs⟩ : ∃ s, str (ys.take m) = s := ⟨_, rfl⟩
    rw [hs] at HR hcv
    clear hs
    have n6 : ¬ cap = 1 := by omega
    go_wp2_with fail
    refine (CM'.out s w3).mono ?_
    rintro x w5 ⟨rfl, hb5⟩
    have U5 := Lib.hid (U3.out.trans hb5)
    have B5 := Lib.hid (B4.out.up hb5)
    have hR := HR.out
    clear hcv hyf hL B4 U3 hb5 EM CM' CO HR
    obtain ⟨z, hz⟩ : ∃ z, ok s = z := ⟨_, rfl⟩
    rw [hz] at hR ⊢
    clear hz
    by_cases h0 : z = 0
    rotate_left
    · have z0 : (z == 0) = false := by simpa using h0
      rw [if_pos h0] at hR
      have HR2 := Lib.hid hR
      clear hR h0
      go_wp2
      go_ret2
      rw [HR2.out]
      exact ⟨rfl, Wrote.bad U5.out (by decide)⟩
    subst h0
    rw [if_neg (by simp)] at hR
    have HR2 := Lib.hid hR
    clear hR
    have hto : w5.cell? ⟨bt, 0, none⟩ = some (.pointer (some p)) := (U5.out.cell (p := ⟨bt, 0, none⟩) lt).trans HT.out
    have hpo : w5.cell? p = some old := (U5.out.cell (p := p) lp).trans HP.out
    have hpf : w5.frozen? p = false := (U5.out.frozen (p := p) lp).trans HF.out
    go_upto_region 11 with (fail)
    refine wp_named (fun W hW => ?_)
    have hL : W.cell? ⟨w.heap.size, 0, none⟩ = some (.int .i64 (m : Nat)) := by
      rw [hW]; exact (B5.out.other (p := p) (by omega) (.string s)).cell rfl
    have HW := Lib.hid hW
    clear hW hto hpo hpf
    go_wp2
    go_ret2
    rw [HR2.out]
    exact ⟨by simp [Int.add_comm], by rw [HW.out]; exact Wrote.ok U5.out⟩

theorem words_any (p : Addr) (most : Int) (gm : Nat) (ok : ByteArray → Int)
    (CM : ∀ s W, Calls Try.prog gm #[.string s] W fun x w' => x = .returned (.int .i64 (ok s)) ∧ Below W.heap.size W w') (EM : ∀ args w, (callFunc gm args).run Try.prog w = .ok (.enter gm args) w) (w : World) :
    Calls Try.prog 125 #[.pointer (some p), .int .u8 most, .func (.func gm) #[] #[]] w fun x w' =>
    ∃ F, x = .returned F ∧ Lex.Up w w' ∧ LeafAt w.heap.size w'.heap.size w' F p Value.string (Fl.wrdR most ok) := by
  have HB := Lib.hid (box3_is w (.pointer (some p)) (.int .u8 most) (.func (.func gm) #[] #[]) 148 5 135)
  have eg := enters Try.func136 (by kernel_rfl) rfl
  have EG := Lib.hid eg; clear eg
  have EM' := Lib.hid EM; clear EM
  have CM' := Lib.hid CM; clear CM
  go_enter Try.func125, Try.ntmps125
  go_wp2
  go_ret
  obtain ⟨b1, b2, b3, hu, hz⟩ := HB.out
  refine ⟨_, rfl, hu, _, _, rfl, EG.out, fun W A n cap xs hk hp hf hs => ?_⟩
  change Keep w.heap.size (box3 w (.pointer (some p)) (.int .u8 most) (.func (.func gm) #[] #[]) 148 5 135).heap.size _ W at hk
  rw [hz] at hk
  exact words1_any (w.heap.size + 1) (w.heap.size + 1 + 1) w.heap.size most gm ok p A n cap xs W ((hk.blk b2 (by omega) (by omega)).cell rfl) ((hk.blk b3 (by omega) (by omega)).cell rfl) ((hk.blk b1 (by omega) (by omega)).cell rfl) CM'.out EM'.out hp hf hs
end Go.Proofs.Ythgfbnkggdlokaa
