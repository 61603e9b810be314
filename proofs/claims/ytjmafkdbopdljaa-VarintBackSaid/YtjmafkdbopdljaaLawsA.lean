/-
  The walks of the statements of layer 1 that speak of Put alone.
-/
import Derived.Test.YtjmafkdbopdljaaShown
import Derived.Test.YtjmafkdbopdljaaMath
namespace Go.Proofs.Ytjmafkdbopdljaa
open Go.RowKit

/-- A slice of numbers that came in reads as its bytes. -/
theorem slc_of_row {w : World} {a : Option Addr} {len cap : Nat} {zs : List Int}
    (h : (a = none ∧ len = 0 ∧ cap = 0 ∧ zs = []) ∨
      ∃ x, a = some x ∧ len ≤ cap ∧ cap ≤ maxLen ∧ zs.length = cap ∧ (∀ i, i < zs.length → w.cell? (x.add i) = some (.int .u8 (zs.getD i 0))) ∧ ∀ n ∈ zs, (Lit.int .u8 n).wf = true) :
    ∃ xs, Slc w a len cap xs := by
  rcases h with ⟨rfl, rfl, rfl, rfl⟩ | ⟨⟨b, off, sp⟩, rfl, hl, hm, hz, hc, hw⟩
  · exact ⟨[], rfl, by omega, by omega, fun j => by simp [Pl.nth], fun h => by omega⟩
  · have hwf : ∀ i, i < cap → 0 ≤ zs.getD i 0 ∧ zs.getD i 0 < 256 := fun i hi => by
      have hi' : i < zs.length := by omega
      have := hw (zs.getD i 0) (by simp [List.getD_eq_getElem?_getD, hi'])
      simp [Lit.wf, IntKind.min, IntKind.max, IntKind.bits, IntKind.signed] at this ⊢
      omega
    refine ⟨(zs.take len).map Int.toNat, by simp; omega, hl, by simp only [maxLen] at hm; omega, fun j => ?_, fun h0 => ?_⟩
    · unfold Pl.nth
      rw [List.getD_eq_getElem?_getD]
      by_cases hj : j < len
      · have hj' : j < zs.length := by omega
        have := hwf j (by omega)
        simp [hj, hj', List.getD_eq_getElem?_getD] at this ⊢
        omega
      · simp [List.getElem?_take, hj]
    · have h00 := hc 0 (by omega)
      have hsp : sp = none := by simpa [Addr.add] using World.cell?_spot h00
      subst hsp
      have hlt := World.block_lt_of_cell? w _ h00
      have hadd : ∀ j, (⟨b, off, none⟩ : Addr).add j = ⟨b, off + j, none⟩ := fun j => by unfold Addr.add; split <;> simp_all
      refine ⟨b, off, rfl, by simpa [hadd] using hlt, fun j hj => ?_⟩
      have hj' : j < zs.length := by omega
      have h1 := hc j hj'
      have h2 := hwf j (by omega)
      rw [hadd] at h1
      rw [h1]
      simp [bv, Pl.nth, hj, hj', List.getD_eq_getElem?_getD] at h2 ⊢
      omega
theorem u64_nat {a : Int} (h : (Lit.int .u64 a).wf = true) : ∃ n : Nat, a = n ∧ n < 18446744073709551616 := by
  simp [Lit.wf, IntKind.min, IntKind.max, IntKind.bits, IntKind.signed] at h
  exact ⟨a.toNat, by omega, by omega⟩
theorem u8_nat {a : Int} (h : (Lit.int .u8 a).wf = true) : ∃ n : Nat, a = n ∧ n < 256 := by
  simp [Lit.wf, IntKind.min, IntKind.max, IntKind.bits, IntKind.signed] at h
  exact ⟨a.toNat, by omega, by omega⟩

set_option maxRecDepth 100000 in
set_option maxHeartbeats 400000 in
theorem law_apart (a b : Nat) (w : World) (ha : a < 18446744073709551616) (hb : b < 18446744073709551616) :
    Calls Try.prog 6 #[.int .u64 a, .int .u64 b] w fun e w' => e = .returned (.bool true) ∧ Below w.heap.size w w' := by
  have hla := (Pl.form_at _ (Pl.form_put ha)).1
  have hlb := (Pl.form_at _ (Pl.form_put hb)).1
  have C1 := Lib.hid (shown_any w)
  have C2 := Lib.hid (fun w => put_any a w ha)
  have C3 := Lib.hid (fun w => put_any b w hb)
  have xa := Pl.put_lt ha
  have xb := Pl.put_lt hb
  have hap := Pl.put_apart ha hb
  have la := Pl.put_len a
  have lb := Pl.put_len b
  generalize Pl.put a = p at *
  generalize Pl.put b = q at *
  have XA := Lib.hid xa; clear xa
  have XB := Lib.hid xb; clear xb
  have HA := Lib.hid hap; clear hap
  clear ha hb
  go_enter Try.func6, Try.ntmps6
  go_wp2_with fail
  refine C1.out.mono ?_
  rintro e w1 ⟨rfl, hb1⟩
  go_wp2_with fail
  refine (C2.out _).mono ?_
  rintro e w2 ⟨A, cA, rfl, hown2, hb2⟩
  have s2 := slc_of_own hown2 XA.out
  clear hown2
  go_wp2_with fail
  refine (C3.out _).mono ?_
  rintro e w3 ⟨B, cB, rfl, hown3, hb3⟩
  have s3 := slc_of_own hown3 XB.out
  clear hown3
  have s2' := s2.below hb3
  have hbel : Below w.heap.size w w3 := (hb1.trans (hb2.mono hb1.size)).trans (hb3.mono (by have := hb1.size; have := hb2.size; omega))
  have hcA := s2.2.1
  have hmA := s2.2.2.1
  have hcB := s3.2.1
  have hmB := s3.2.2.1
  have hmem : ∀ {l : List Nat} (m : Nat), (∀ x ∈ l, x < 256) → ∀ x ∈ l.take m, x < 256 := fun m h x hx => h x (List.mem_of_mem_take hx)
  have hi : ∀ r, decide (a = b) = r → ((a : Int) == (b : Int)) = r := fun r h => by
    rw [← h, Bool.eq_iff_iff]; simp; omega
  rcases Nat.lt_or_ge q.length p.length with hlt | hle
  rotate_left
  · have t1 := fun k => conv_slc ((s2'.take_ (Nat.le_refl _)).drewN k)
    have t2 := fun k => conv_slc ((s3.take_ hle).drewN k)
    have hst := str_eq (hmem p.length XA.out) (hmem p.length XB.out)
    have ha2 := HA.out
    rw [Nat.min_eq_left hle] at ha2
    obtain ⟨r, hr⟩ : ∃ r, decide (a = b) = r := ⟨_, rfl⟩
    have hi' := hi r hr
    rw [show decide (p.take p.length = q.take p.length) = decide (a = b) by simp only [ha2], hr] at hst
    simp only [List.take_length] at t1 hst
    generalize q.take p.length = q' at *
    clear s2 s2' s3 hb1 hb2 hb3 ha2 hi hmem hr
    have HB := Lib.hid hbel; clear hbel
    go_wp2
    go_quiet (fail)
    go_wp2
    go_ret
    exact ⟨by simp, below_drewN HB.out _⟩
  · have t1 := fun k => conv_slc ((s2'.take_ (Nat.le_of_lt hlt)).drewN k)
    have t2 := fun k => conv_slc ((s3.take_ (Nat.le_refl _)).drewN k)
    have hst := str_eq (hmem q.length XA.out) (hmem q.length XB.out)
    have ha2 := HA.out
    rw [Nat.min_eq_right (Nat.le_of_lt hlt)] at ha2
    obtain ⟨r, hr⟩ : ∃ r, decide (a = b) = r := ⟨_, rfl⟩
    have hi' := hi r hr
    rw [show decide (p.take q.length = q.take q.length) = decide (a = b) by simp only [ha2], hr] at hst
    simp only [List.take_length] at t1 hst
    generalize p.take q.length = p' at *
    clear s2 s2' s3 hb1 hb2 hb3 ha2 hi hmem hr
    have HB := Lib.hid hbel; clear hbel
    go_wp2
    go_quiet (fail)
    go_wp2
    go_ret
    exact ⟨by simp, below_drewN HB.out _⟩

theorem put_orders {a b : Nat} (h : a ≤ b) (hb : b < 18446744073709551616) : (Pl.put a).length ≤ (Pl.put b).length := by
  induction b using Nat.strongRecOn generalizing a with
  | _ b ih =>
    by_cases hb1 : b < 128
    · rw [Pl.put_lo hb1, Pl.put_lo (by omega)]; simp
    · rw [Pl.put_hi hb1 hb]
      by_cases ha1 : a < 128
      · rw [Pl.put_lo ha1]; simp
      · rw [Pl.put_hi ha1 (by omega)]
        have := ih (b / 128) (by omega) (a := a / 128) (Nat.div_le_div_right h) (by omega)
        simp; omega

set_option maxRecDepth 100000 in
set_option maxHeartbeats 400000 in
theorem law_orders (a b : Nat) (w : World) (ha : a < 18446744073709551616) (hb : b < 18446744073709551616) :
    Calls Try.prog 7 #[.int .u64 a, .int .u64 b] w fun e w' => e = .returned (.bool true) ∧ Below w.heap.size w w' := by
  obtain ⟨m, hm⟩ : ∃ m, min a b = m := ⟨_, rfl⟩
  obtain ⟨M, hM⟩ : ∃ M, max a b = M := ⟨_, rfl⟩
  have h1 : m < 18446744073709551616 := by omega
  have h2 : M < 18446744073709551616 := by omega
  have hle := put_orders (a := m) (b := M) (by omega) h2
  obtain ⟨l0, _, _, _, _⟩ := Pl.form_at _ (Pl.form_put h1)
  obtain ⟨k0, _, k2, k3, _⟩ := Pl.form_at _ (Pl.form_put h2)
  have k10 := (Pl.form_len h2).1
  have C1 := Lib.hid (shown_any w)
  have C2 := Lib.hid (fun w => put_any m w h1)
  have C3 := Lib.hid (fun w => put_any M w h2)
  have xb := Pl.put_lt h2
  have lb := Pl.put_len M
  generalize Pl.put m = p at *
  generalize Pl.put M = q at *
  have XB := Lib.hid xb; clear xb
  have K3 := Lib.hid k3; clear k3
  have HM := Lib.hid hm; clear hm
  have HM2 := Lib.hid hM; clear hM
  clear ha hb
  rcases Nat.lt_trichotomy b a with hab | hab | hab
  · have e1 : m = b := by have := HM.out; omega
    have e2 : M = a := by have := HM2.out; omega
    subst e1 e2
    go_enter Try.func7, Try.ntmps7
    go_wp2_with fail
    refine C1.out.mono ?_
    rintro e w1 ⟨rfl, hb1⟩
    go_wp2_with fail
    refine (C2.out _).mono ?_
    rintro e w2 ⟨A, cA, rfl, hown2, hb2⟩
    clear hown2
    go_wp2_with fail
    refine (C3.out _).mono ?_
    rintro e w3 ⟨B, cB, rfl, hown3, hb3⟩
    have s3 := slc_of_own hown3 XB.out
    clear hown3
    have hbel : Below w.heap.size w w3 := (hb1.trans (hb2.mono hb1.size)).trans (hb3.mono (by have := hb1.size; have := hb2.size; omega))
    obtain ⟨_, hcB, hmB, hlt, hcell⟩ := s3
    obtain ⟨bb, off, rfl, _, hc⟩ := hcell (by omega)
    have hck := hc (q.length - 1) (by omega)
    unfold bv at hck
    have HB := Lib.hid hbel
    have h255 := hlt (q.length - 1)
    clear hbel hb1 hb2 hb3 hc hlt hcell
    by_cases hq : q.length = 1
    · have hqi : ((q.length : Int) == 1) = true := by simp; omega
      have HQ := Lib.hid hq; clear hq
      go_wp2
      go_ret
      exact ⟨rfl, HB.out⟩
    · have hqi : ((q.length : Int) == 1) = false := by simp; omega
      have hz : (Pl.nth q (q.length - 1) : Int) != 0 := by
        have : Pl.nth q (q.length - 1) ≠ 0 := fun h => hq (K3.out h)
        simp; omega
      go_wp2
      go_ret
      exact ⟨rfl, HB.out⟩
  · have e1 : m = a := by have := HM.out; omega
    have e2 : M = a := by have := HM2.out; omega
    subst hab
    subst e1 e2
    go_enter Try.func7, Try.ntmps7
    go_wp2_with fail
    refine C1.out.mono ?_
    rintro e w1 ⟨rfl, hb1⟩
    go_wp2_with fail
    refine (C2.out _).mono ?_
    rintro e w2 ⟨A, cA, rfl, hown2, hb2⟩
    clear hown2
    go_wp2_with fail
    refine (C3.out _).mono ?_
    rintro e w3 ⟨B, cB, rfl, hown3, hb3⟩
    have s3 := slc_of_own hown3 XB.out
    clear hown3
    have hbel : Below w.heap.size w w3 := (hb1.trans (hb2.mono hb1.size)).trans (hb3.mono (by have := hb1.size; have := hb2.size; omega))
    obtain ⟨_, hcB, hmB, hlt, hcell⟩ := s3
    obtain ⟨bb, off, rfl, _, hc⟩ := hcell (by omega)
    have hck := hc (q.length - 1) (by omega)
    unfold bv at hck
    have HB := Lib.hid hbel
    have h255 := hlt (q.length - 1)
    clear hbel hb1 hb2 hb3 hc hlt hcell
    by_cases hq : q.length = 1
    · have hqi : ((q.length : Int) == 1) = true := by simp; omega
      have HQ := Lib.hid hq; clear hq
      go_wp2
      go_ret
      exact ⟨rfl, HB.out⟩
    · have hqi : ((q.length : Int) == 1) = false := by simp; omega
      have hz : (Pl.nth q (q.length - 1) : Int) != 0 := by
        have : Pl.nth q (q.length - 1) ≠ 0 := fun h => hq (K3.out h)
        simp; omega
      go_wp2
      go_ret
      exact ⟨rfl, HB.out⟩
  · have e1 : m = a := by have := HM.out; omega
    have e2 : M = b := by have := HM2.out; omega
    subst e1 e2
    go_enter Try.func7, Try.ntmps7
    go_wp2_with fail
    refine C1.out.mono ?_
    rintro e w1 ⟨rfl, hb1⟩
    go_wp2_with fail
    refine (C2.out _).mono ?_
    rintro e w2 ⟨A, cA, rfl, hown2, hb2⟩
    clear hown2
    go_wp2_with fail
    refine (C3.out _).mono ?_
    rintro e w3 ⟨B, cB, rfl, hown3, hb3⟩
    have s3 := slc_of_own hown3 XB.out
    clear hown3
    have hbel : Below w.heap.size w w3 := (hb1.trans (hb2.mono hb1.size)).trans (hb3.mono (by have := hb1.size; have := hb2.size; omega))
    obtain ⟨_, hcB, hmB, hlt, hcell⟩ := s3
    obtain ⟨bb, off, rfl, _, hc⟩ := hcell (by omega)
    have hck := hc (q.length - 1) (by omega)
    unfold bv at hck
    have HB := Lib.hid hbel
    have h255 := hlt (q.length - 1)
    clear hbel hb1 hb2 hb3 hc hlt hcell
    by_cases hq : q.length = 1
    · have hqi : ((q.length : Int) == 1) = true := by simp; omega
      have HQ := Lib.hid hq; clear hq
      go_wp2
      go_ret
      exact ⟨rfl, HB.out⟩
    · have hqi : ((q.length : Int) == 1) = false := by simp; omega
      have hz : (Pl.nth q (q.length - 1) : Int) != 0 := by
        have : Pl.nth q (q.length - 1) ≠ 0 := fun h => hq (K3.out h)
        simp; omega
      go_wp2
      go_ret
      exact ⟨rfl, HB.out⟩

end Go.Proofs.Ytjmafkdbopdljaa
