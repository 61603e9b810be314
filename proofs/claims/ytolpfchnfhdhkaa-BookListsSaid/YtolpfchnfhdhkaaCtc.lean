/-
  The walk of contact.
-/
import Derived.Test.YtolpfchnfhdhkaaSrt
import Derived.Test.YtolpfchnfhdhkaaStpW
namespace Go.Proofs.Ytolpfchnfhdhkaa
open Go.RowKit
set_option maxRecDepth 100000
set_option maxRecDepth 100000

namespace Bk
def vals (xs : List Ev) : List ByteArray := xs.map Ev.v
def stamps (xs : List Ev) : List Stp := xs.map Ev.stp
def has (xs : List Ev) : Bool := decide (0 ≤ Stp.last (stamps xs))
/-- The value of the last one. -/
def field (xs : List Ev) : ByteArray := if 0 ≤ Stp.last (stamps xs) then (vals xs).getD (Stp.last (stamps xs)).toNat ⟨#[]⟩ else ⟨#[]⟩
def set (xs : List Ev) : List ByteArray := compS (sortS (vals xs))
def ctc (key : ByteArray) (hs : Nat → Bool) (fs : Nat → ByteArray) (us : Nat → Value) : Array Value := #[.string key, .bool (hs 0), .bool (hs 1), .string (fs 0), .string (fs 1), us 0, us 1]
theorem ctc_has (key : ByteArray) (hs : Nat → Bool) (fs : Nat → ByteArray) (us : Nat → Value) {k : Nat} (hk : k < 2) (x : Bool) : (ctc key hs fs us).setIfInBounds (1 + k) (.bool x) = ctc key (Dr.upd hs k x) fs us := by
  match k, hk with
  | 0, _ | 1, _ => simp [ctc, Dr.upd]
theorem ctc_fld (key : ByteArray) (hs : Nat → Bool) (fs : Nat → ByteArray) (us : Nat → Value) {k : Nat} (hk : k < 2) (x : ByteArray) : (ctc key hs fs us).setIfInBounds (3 + k) (.string x) = ctc key hs (Dr.upd fs k x) us := by
  match k, hk with
  | 0, _ | 1, _ => simp [ctc, Dr.upd]
theorem ctc_set (key : ByteArray) (hs : Nat → Bool) (fs : Nat → ByteArray) (us : Nat → Value) {k : Nat} (hk : k < 2) (x : Value) : (ctc key hs fs us).setIfInBounds (5 + k) x = ctc key hs fs (Dr.upd us k x) := by
  match k, hk with
  | 0, _ | 1, _ => simp [ctc, Dr.upd]
theorem ctc_eq (key : ByteArray) {hs hs' : Nat → Bool} {fs fs' : Nat → ByteArray} {us us' : Nat → Value} (h : ∀ j, j < 2 → hs j = hs' j ∧ fs j = fs' j ∧ us j = us' j) : ctc key hs fs us = ctc key hs' fs' us' := by
  obtain ⟨a0, b0, c0⟩ := h 0 (by omega)
  obtain ⟨a1, b1, c1⟩ := h 1 (by omega)
  simp [ctc, a0, b0, c0, a1, b1, c1]
theorem strV_len (xs : List ByteArray) : (strV xs).length = xs.length := by simp [strV]
theorem stps_flat (xs : List Ev) : stps xs = ((stamps xs).length, Stp.flat (stamps xs)) := by simp [stps, stamps]
theorem strs_val (xs : List Ev) : strs xs = ((vals xs).length, strV (vals xs)) := by simp [strs, vals, strV, Function.comp_def]
theorem last_lt {xs : List Ev} (h : 0 ≤ Stp.last (stamps xs)) : (Stp.last (stamps xs)).toNat < xs.length := by
  by_cases h0 : stamps xs = []
  · rw [h0] at h; simp [Stp.last] at h
  · have hl : 0 < (stamps xs).length := List.length_pos_iff.2 h0
    obtain ⟨j, hj, e⟩ := Stp.mx_is hl
    have : (Stp.last (stamps xs)).toNat = (stamps xs).findIdx (fun x => decide (x = Stp.mx (stamps xs))) := by unfold Stp.last; rw [if_neg h0]; rfl
    rw [this]
    have hm : (stamps xs).findIdx (fun x => decide (x = Stp.mx (stamps xs))) < (stamps xs).length := by
      rw [List.findIdx_lt_length]
      refine ⟨Stp.nth (stamps xs) j, ?_, by simpa using e.symm⟩
      unfold Stp.nth
      rw [List.getD, List.getElem?_eq_getElem hj]
      exact List.getElem_mem _
    simpa [stamps] using hm
end Bk
/-- A slice of these texts, in what was this block. -/
def SetAt (w : World) (u : Value) (ob : Option Nat) (xs : List ByteArray) : Prop :=
  ∃ A cap, u = .slice A xs.length cap ∧ Sl w 1 A xs.length cap (Bk.strV xs) ∧ ∀ a, A = some a → ob = some a.block
theorem Sl.kept {w w' : World} {sz n cap : Nat} {A : Option Addr} {cs : List Value} {o : Option Nat} (h : Sl w sz A n cap cs) (hg : w.grownBy w' o) (hne : ∀ a, A = some a → some a.block ≠ o) : Sl w' sz A n cap cs := by
  obtain ⟨hl, hc, hm, hcell⟩ := h
  refine ⟨hl, hc, hm, fun h0 => ?_⟩
  obtain ⟨b, off, e, hbl, hcl⟩ := hcell h0
  refine ⟨b, off, e, Nat.lt_of_lt_of_le hbl hg.size, fun j u hu => ?_⟩
  rw [World.cell?_of_block (hg.block b hbl (hne _ e))]
  exact hcl j u hu
theorem SetAt.kept {w w' : World} {u : Value} {ob o : Option Nat} {xs : List ByteArray} (h : SetAt w u ob xs) (hg : w.grownBy w' o) (hne : ∀ g, ob = some g → some g ≠ o) : SetAt w' u ob xs := by
  obtain ⟨A, cap, e, hs, ht⟩ := h
  exact ⟨A, cap, e, hs.kept hg (fun a ha => hne _ (ht a ha)), ht⟩
theorem SetAt.up {w w' : World} {u : Value} {ob : Option Nat} {xs : List ByteArray} (h : SetAt w u ob xs) (hu : Lex.Up w w') : SetAt w' u ob xs := by
  obtain ⟨A, cap, e, hs, ht⟩ := h
  exact ⟨A, cap, e, hs.up hu, ht⟩
def CtRel1 (key : ByteArray) (fs : Nat → List Ev) (r : Nat) (W : World) (v : Value) (wr : World) : Prop :=
  ∃ k : Nat, k ≤ 2 ∧ v = .int .i64 k ∧ Hid (Blk wr r (Bk.ctc ⟨#[]⟩ (fun _ => false) (fun _ => ⟨#[]⟩) (fun _ => .slice none 0 0)) 51) ∧
    Hid (Blk wr (r + 1) (Bk.ctc key (fun j => if j < k then Bk.has (fs j) else false) (fun j => if j < k then Bk.field (fs j) else ⟨#[]⟩) (fun _ => .slice none 0 0)) 51) ∧ Hid (Below r W wr)
def CtRel2 (key : ByteArray) (fs ad : Nat → List Ev) (B : Nat) (own : Nat → Option (Nat × Nat)) (p : Nat) (vs : Nat → Value) (r : Nat) (W : World) (v : Value) (wr : World) : Prop :=
  ∃ (k : Nat) (us : Nat → Value), k ≤ 2 ∧ v = .int .i64 k ∧ Hid (Blk wr r (Bk.ctc ⟨#[]⟩ (fun _ => false) (fun _ => ⟨#[]⟩) (fun _ => .slice none 0 0)) 51) ∧
    Hid (Blk wr (r + 1) (Bk.ctc key (fun j => Bk.has (fs j)) (fun j => Bk.field (fs j)) (fun j => if j < k then us j else .slice none 0 0)) 51) ∧
    Hid (∀ j, k ≤ j → j < 2 → wr.ownsRow B 9 1 (vs (4 + j)) (Bk.vals (ad j)).length (Bk.strV (Bk.vals (ad j)))) ∧
    Hid (∀ j, j < k → SetAt wr (us j) (vs (4 + j)).ownBlock (Bk.set (ad j))) ∧ Hid (ModBy W wr own p) 

set_option maxHeartbeats 6400000 in
theorem contact_any (B p : Nat) (own : Nat → Option (Nat × Nat)) (vs : Nat → Value) (D : Nat → Nat × List Value) (key : ByteArray) (fs ad : Nat → List Ev) (w : World) (h : DrW w B own p vs D)
    (hD : ∀ l, l < 2 → D l = Bk.strs (fs l) ∧ D (2 + l) = Bk.stps (fs l) ∧ D (4 + l) = Bk.strs (ad l)) (hn : ∀ l, l < 2 → (fs l).length ≤ 1000000 ∧ (ad l).length ≤ 1000000) :
    Calls Try.prog 67 #[.pointer (some ⟨p, 0, none⟩), .string key] w fun x w' => ∃ us : Nat → Value, x = .returned (.agg (Bk.ctc key (fun j => Bk.has (fs j)) (fun j => Bk.field (fs j)) us)) ∧
      (∀ j, j < 2 → SetAt w' (us j) (vs (4 + j)).ownBlock (Bk.set (ad j))) ∧ ModBy w w' own p := by
  have Z0 := Lib.hid ((Blk.new w (Bk.ctc ⟨#[]⟩ (fun _ => false) (fun _ => ⟨#[]⟩) (fun _ => .slice none 0 0)) 51).alloc (.cells (Bk.ctc key (fun _ => false) (fun _ => ⟨#[]⟩) (fun _ => .slice none 0 0)) 51))
  have C0 := Lib.hid (Blk.new (w.alloc (.cells (Bk.ctc ⟨#[]⟩ (fun _ => false) (fun _ => ⟨#[]⟩) (fun _ => .slice none 0 0)) 51)) (Bk.ctc key (fun _ => false) (fun _ => ⟨#[]⟩) (fun _ => .slice none 0 0)) 51)
  have U0 := Lib.hid (show Lex.Up w ((w.alloc (.cells (Bk.ctc ⟨#[]⟩ (fun _ => false) (fun _ => ⟨#[]⟩) (fun _ => .slice none 0 0)) 51)).alloc (.cells (Bk.ctc key (fun _ => false) (fun _ => ⟨#[]⟩) (fun _ => .slice none 0 0)) 51)) from ((Below.refl _ _).alloc (Nat.le_refl _) _).alloc (by simp) _)
  have DU := Lib.hid (fun w5 (hu : Lex.Up w w5) => h.up hu)
  have hp := h.k.lt
  obtain ⟨W, hW⟩ : ∃ W, W = (w.alloc (.cells (Bk.ctc ⟨#[]⟩ (fun _ => false) (fun _ => ⟨#[]⟩) (fun _ => .slice none 0 0)) 51)).alloc (.cells (Bk.ctc key (fun _ => false) (fun _ => ⟨#[]⟩) (fun _ => .slice none 0 0)) 51) := ⟨_, rfl⟩
  rw [← hW] at Z0 C0 U0
  simp only [World.size_alloc] at C0
  have d2 := drw_cell (DU.out _ U0.out) (show 2 < 6 by omega)
  have d3 := drw_cell (DU.out _ U0.out) (show 3 < 6 by omega)
  unfold Bk.ctc at hW
  go_enter Try.func67, Try.ntmps67
  go_upto_region 2 with (fail)
  refine wp_named (fun W2 hW2 => ?_)
  obtain rfl : W2 = W := by rw [hW2, hW]
  clear hW hW2
  go_wp2
  clear d2 d3
  have RS := Lib.hid (show ∀ k, k < 2 → ∀ w5, Lex.Up w w5 → ∃ A cap, vs (2 + k) = .slice A (Bk.stamps (fs k)).length cap ∧ Sl w5 2 A (Bk.stamps (fs k)).length cap (Stp.flat (Bk.stamps (fs k))) from fun k hk w5 hu => by
    have := own_up (h.r (2 + k) (by omega)).1 hu
    rw [(hD k hk).2.1, Bk.stps_flat, show Dr.sz (2 + k) = 2 by unfold Dr.sz; rw [if_pos (by omega)]] at this
    exact Sl.of_own this)
  have RF := Lib.hid (show ∀ k, k < 2 → ∀ w5, Lex.Up w w5 → ∃ A cap, vs k = .slice A (Bk.vals (fs k)).length cap ∧ Sl w5 1 A (Bk.vals (fs k)).length cap (Bk.strV (Bk.vals (fs k))) from fun k hk w5 hu => by
    have := own_up (h.r k (by omega)).1 hu
    rw [(hD k hk).1, Bk.strs_val, show Dr.sz k = 1 by unfold Dr.sz; rw [if_neg (by omega)]] at this
    exact Sl.of_own this)
  have RB := Lib.hid (show ∀ j, j < 6 → ∀ g, (vs j).ownBlock = some g → g < w.heap.size from fun j hj g hg => rw_lt (h.r j hj) hg)
  have HX := Lib.hid (show ∀ k, k < 2 → ∀ w, (Instr.index 100 (.agg #[vs 2, vs 3]) (.int .i64 (k : Nat))).run Try.prog w = .ok (vs (2 + k)) w from fun k hk w => by
    match k, hk with
    | 0, _ | 1, _ => go_simp; rfl)
  go_loopw [17] (fun v wr => CtRel1 key fs w.heap.size w v wr) (fun v _ => 2 - (intOf v).toNat)
  case atStart => exact ⟨0, by omega, rfl, Z0, Lib.hid (by simpa using C0.out), U0⟩
  case round =>
    obtain ⟨k, hk, rfl, ZZ, CC, UU⟩ := hrel
    clear Z0 C0 U0
    by_cases h5 : k < 2
    · have h5' : (k : Int) < 2 := by omega
      obtain ⟨A2, cap2, e2, S2⟩ := RS.out k h5 wr UU.out
      have hx := HX.out k h5
      rw [e2] at hx
      have CL := Lib.hid (last_any A2 cap2 (Bk.stamps (fs k)) wr S2)
      have HL := Lib.hid (fun hh => Bk.last_lt (xs := fs k) hh)
      have HH := Lib.hid (show Bk.has (fs k) = decide (0 ≤ Stp.last (Bk.stamps (fs k))) from rfl)
      have HF := Lib.hid (show Bk.field (fs k) = if 0 ≤ Stp.last (Bk.stamps (fs k)) then (Bk.vals (fs k)).getD (Stp.last (Bk.stamps (fs k))).toNat ⟨#[]⟩ else ⟨#[]⟩ from rfl)
      generalize hgl : Stp.last (Bk.stamps (fs k)) = q at CL HL HH HF
      clear hgl HX RS S2 e2
      go_wp2_with fail
      refine CL.out.mono ?_
      rintro x w6 ⟨rfl, hb⟩
      have Z6 := Lib.hid (ZZ.out.up hb)
      have C6 := Lib.hid (CC.out.up hb)
      have U6 := Lib.hid (UU.out.trans (hb.mono UU.out.size))
      clear hb CL ZZ CC UU hx
      by_cases hq : 0 ≤ q
      · have d : decide (0 ≤ q) = true := by simpa using hq
        obtain ⟨j, rfl⟩ : ∃ j : Nat, q = j := ⟨q.toNat, by omega⟩
        have hj := HL.out hq
        simp only [Int.toNat_natCast] at hj
        obtain ⟨Af, capf, ef, Sf⟩ := RF.out k h5 w6 U6.out
        have hvl : (Bk.vals (fs k)).length = (fs k).length := by simp [Bk.vals]
        obtain ⟨bf, off, rfl, hbf, hcf⟩ := Sf.2.2.2 (by omega)
        have hlim : (Bk.vals (fs k)).length ≤ 9223372036854775807 := Nat.le_trans Sf.2.1 Sf.2.2.1
        have cf := hcf j (.string ((Bk.vals (fs k)).getD j ⟨#[]⟩)) (by
          unfold Bk.strV
          rw [List.getElem?_map, List.getElem?_eq_getElem (by omega), List.getD, List.getElem?_eq_getElem (by omega)]; rfl)
        have dk := drw_cell (DU.out _ U6.out) (show k < 6 by omega)
        rw [ef] at dk
        have HF2 := Lib.hid (show Bk.field (fs k) = (Bk.vals (fs k)).getD j ⟨#[]⟩ by rw [HF.out, if_pos hq]; rfl)
        have HH2 := Lib.hid (show Bk.has (fs k) = true by rw [HH.out, d])
        have hjn : (j : Int) < (Bk.vals (fs k)).length := by omega
        have jn : j < (Bk.vals (fs k)).length := by omega
        generalize (Bk.vals (fs k)).getD j ⟨#[]⟩ = sv at cf HF2
        generalize (Bk.vals (fs k)).length = nv at *
        have fr1 := C6.out.frozen (1 + k)
        have fr3 := C6.out.frozen (3 + k)
        have c1 : w6.cell? ⟨w.heap.size + 1, 1 + k, none⟩ = some (.bool false) := by
          match k, h5 with
          | 0, _ | 1, _ => exact C6.out.cell (by simp [Bk.ctc])
        have c3 : w6.cell? ⟨w.heap.size + 1, 3 + k, none⟩ = some (.string ⟨#[]⟩) := by
          match k, h5 with
          | 0, _ | 1, _ => exact C6.out.cell (by simp [Bk.ctc])
        have ltc := C6.out.lt
        have hbl := RB.out k (by omega) bf (by rw [ef]; rfl)
        have hb1 : bf ≠ w.heap.size + 1 := by omega
        have hb2 : w.heap.size + 1 ≠ bf := by omega
        have hp1 : p ≠ w.heap.size + 1 := by omega
        have hp2 : w.heap.size + 1 ≠ p := by omega
        clear HL HH HF hcf Sf hq d ef
        go_upto_region 7 with (fail)
        go_region
        have C8 := Lib.hid (show Blk ((w6.setCell ⟨w.heap.size + 1, 1 + k, none⟩ (.bool true)).setCell ⟨w.heap.size + 1, 3 + k, none⟩ (.string sv)) (w.heap.size + 1) (Bk.ctc key (fun j => if j < k + 1 then Bk.has (fs j) else false) (fun j => if j < k + 1 then Bk.field (fs j) else ⟨#[]⟩) (fun _ => .slice none 0 0)) 51 from by
          have := (C6.out.set (1 + k) (.bool true)).set (3 + k) (.string sv)
          rw [Bk.ctc_has _ _ _ _ h5, Bk.ctc_fld _ _ _ _ h5] at this
          rw [Bk.ctc_eq key (fun i hi => ?_)]
          · exact this
          · unfold Dr.upd
            by_cases e : i = k
            · subst e
              exact ⟨by (try dsimp only); rw [if_pos (Nat.lt_succ_self i), if_pos rfl, HH2.out], by (try dsimp only); rw [if_pos (Nat.lt_succ_self i), if_pos rfl, HF2.out], rfl⟩
            · by_cases e2 : i < k
              · exact ⟨by (try dsimp only); rw [if_pos (by omega), if_neg e, if_pos e2], by (try dsimp only); rw [if_pos (by omega), if_neg e, if_pos e2], rfl⟩
              · exact ⟨by (try dsimp only); rw [if_neg (by omega), if_neg e, if_neg e2], by (try dsimp only); rw [if_neg (by omega), if_neg e, if_neg e2], rfl⟩)
        have Z8 := Lib.hid (Z6.out.other2 (p := ⟨w.heap.size + 1, 1 + k, none⟩) (q := ⟨w.heap.size + 1, 3 + k, none⟩) (by simp) (by simp) (.bool true) (.string sv))
        have U8 := Lib.hid ((U6.out.setCell (p := ⟨w.heap.size + 1, 1 + k, none⟩) (by simp) (.bool true)).setCell (p := ⟨w.heap.size + 1, 3 + k, none⟩) (by simp) (.string sv)).drew
        go_wp2
        go_roundw
        case rel => exact ⟨k + 1, by omega, by go_num, Z8, C8, U8⟩
        case measure => simp [intOf]; omega
      · have d : decide (0 ≤ q) = false := by simpa using hq
        have C8 := Lib.hid (show Blk w6 (w.heap.size + 1) (Bk.ctc key (fun j => if j < k + 1 then Bk.has (fs j) else false) (fun j => if j < k + 1 then Bk.field (fs j) else ⟨#[]⟩) (fun _ => .slice none 0 0)) 51 from by
          rw [Bk.ctc_eq key (fun i hi => ?_)]
          · exact C6.out
          · by_cases e : i = k
            · subst e
              exact ⟨by (try dsimp only); rw [if_pos (Nat.lt_succ_self i), if_neg (Nat.lt_irrefl i), HH.out, d], by (try dsimp only); rw [if_pos (Nat.lt_succ_self i), if_neg (Nat.lt_irrefl i), HF.out, if_neg hq], rfl⟩
            · by_cases e2 : i < k
              · exact ⟨by (try dsimp only); rw [if_pos (by omega), if_pos e2], by (try dsimp only); rw [if_pos (by omega), if_pos e2], rfl⟩
              · exact ⟨by (try dsimp only); rw [if_neg (by omega), if_neg e2], by (try dsimp only); rw [if_neg (by omega), if_neg e2], rfl⟩)
        clear HL HH HF hq C6
        go_wp2
        go_roundw
        case rel => exact ⟨k + 1, by omega, by go_num, Z6, C8, U6⟩
        case measure => simp [intOf]; omega
    · have hk2 : k = 2 := by omega
      have d4 := drw_cell (DU.out _ UU.out) (show 4 < 6 by omega)
      have d5 := drw_cell (DU.out _ UU.out) (show 5 < 6 by omega)
      have RT := Lib.hid (show ∀ j, 0 ≤ j → j < 2 → wr.ownsRow B 9 1 (vs (4 + j)) (Bk.vals (ad j)).length (Bk.strV (Bk.vals (ad j))) from fun j _ hj => by
        have := own_up (h.r (4 + j) (by omega)).1 UU.out
        rwa [(hD j hj).2.2, Bk.strs_val, show Dr.sz (4 + j) = 1 by unfold Dr.sz; rw [if_neg (by omega)], show Dr.ty (4 + j) = 9 by unfold Dr.ty; rw [if_neg (by omega)]] at this)
      have HO := Lib.hid (show ∀ j, j < 2 → ∀ g, (vs (4 + j)).ownBlock = some g → own g = some (p, 4 + j + 1) from fun j hj g hg => (h.r (4 + j) (by omega)).2 g hg)
      have HN := Lib.hid (show ∀ j, j < 2 → (Bk.vals (ad j)).length ≤ 1000000 from fun j hj => by have := (hn j hj).2; simpa [Bk.vals] using this)
      have HX := Lib.hid (show ∀ k, k < 2 → ∀ w, (Instr.index 49 (.agg #[vs 4, vs 5]) (.int .i64 (k : Nat))).run Try.prog w = .ok (vs (4 + k)) w from fun k hk w => by
        match k, hk with
        | 0, _ | 1, _ => go_simp; rfl)
      have CC2 := Lib.hid (show Blk wr (w.heap.size + 1) (Bk.ctc key (fun j => Bk.has (fs j)) (fun j => Bk.field (fs j)) (fun j => if j < 0 then .slice none 0 0 else .slice none 0 0)) 51 from by
        rw [Bk.ctc_eq key (fun i hi => ?_)]
        · exact CC.out
        · exact ⟨by (try dsimp only); rw [if_pos (by omega)], by (try dsimp only); rw [if_pos (by omega)], by (try dsimp only); rw [ite_self]⟩)
      clear hk2 h hD hn DU RS RF CC
      go_wp2
      clear d4 d5
      go_loopw [45] (fun v wr => CtRel2 key fs ad B own p vs w.heap.size w v wr) (fun v _ => 2 - (intOf v).toNat)
      case atStart => exact ⟨0, fun _ => .slice none 0 0, by omega, rfl, ZZ, CC2, RT, Lib.hid (fun j hj => absurd hj (by omega)), Lib.hid (ModBy.of_up UU.out own p)⟩
      case round =>
        clear ZZ CC2 RT UU
        clear h5
        obtain ⟨k, us, hk, rfl, ZZ, CC, RT, SA, MB⟩ := hrel
        by_cases h5 : k < 2
        · have h5' : (k : Int) < 2 := by omega
          have hx := HX.out k h5
          have SO := Lib.hid (sort_any B (vs (4 + k)) (Bk.vals (ad k)) wr (RT.out k (Nat.le_refl _) h5) (HN.out k h5))
          have HN1 := Lib.hid (show (Bk.sortS (Bk.vals (ad k))).length ≤ 1000000 by rw [Bk.sortS_len]; exact HN.out k h5)
          go_wp2_with fail
          refine SO.out.mono ?_
          rintro x w6 ⟨rfl, hown6, hg6⟩
          have CO := Lib.hid (comp_any B (vs (4 + k)) (Bk.sortS (Bk.vals (ad k))) w6 (by rw [Bk.sortS_len]; exact hown6) HN1.out)
          have G6 := Lib.hid hg6
          clear SO hown6 hg6 hx
          go_wp2_with fail
          refine CO.out.mono ?_
          rintro x w7 ⟨A, cap, rfl, hs7, ht7, hg7⟩
          have G7 := Lib.hid (by_trans G6.out hg7)
          have hnz := fun g hg => RB.out (4 + k) (by omega) g hg
          have Z7 := Lib.hid (ZZ.out.grown G7.out (fun e => by have := hnz _ e.symm; omega))
          have C7 := Lib.hid (CC.out.grown G7.out (fun e => by have := hnz _ e.symm; omega))
          have S7 := Lib.hid hs7
          have T7 := Lib.hid ht7
          have M7 := Lib.hid (show ModBy w w7 own p from ⟨G7.out.os.trans MB.out.os, G7.out.tape.trans MB.out.tape, G7.out.output.trans MB.out.output, Nat.le_trans MB.out.size G7.out.size, fun g hg hne => (G7.out.block g (Nat.lt_of_lt_of_le hg MB.out.size) (fun e => hne _ (HO.out k h5 g e.symm))).trans (MB.out.block g hg hne)⟩)
          have R7 := Lib.hid (show ∀ j, k + 1 ≤ j → j < 2 → w7.ownsRow B 9 1 (vs (4 + j)) (Bk.vals (ad j)).length (Bk.strV (Bk.vals (ad j))) from fun j hj h2 => (RT.out j (by omega) h2).kept G7.out (by
            rcases hq : (vs (4 + j)).ownBlock with _ | g
            · exact .inl rfl
            · refine .inr fun e => ?_
              have a1 := HO.out j h2 g hq
              have a2 := HO.out k h5 g e.symm
              rw [a1] at a2
              simp at a2
              omega))
          have A7 := Lib.hid (show ∀ j, j < k → SetAt w7 (us j) (vs (4 + j)).ownBlock (Bk.set (ad j)) from fun j hj => (SA.out j hj).kept G7.out (fun g hg e => by
            have a1 := HO.out j (by omega) g hg
            have a2 := HO.out k h5 g e.symm
            rw [a1] at a2
            simp at a2
            omega))
          have f7 := C7.out.frozen (5 + k)
          have c7 : w7.cell? ⟨w.heap.size + 1, 5 + k, none⟩ = some (.slice none 0 0) := by
            match k, h5 with
            | 0, _ | 1, _ => exact C7.out.cell (by simp [Bk.ctc])
          have ltc := C7.out.lt
          clear hs7 ht7 hg7 CO G6 ZZ CC RT SA MB hnz
          have GS := Lib.hid (fun v => by_set' w7 (w.heap.size + 1) (5 + k) v)
          have SL7 := Lib.hid (show SetAt w7 (.slice A (Bk.compS (Bk.sortS (Bk.vals (ad k)))).length cap) (vs (4 + k)).ownBlock (Bk.set (ad k)) from ⟨A, cap, rfl, S7.out, T7.out⟩)
          have RC := Lib.hid (show ∀ j, j < 2 → ∀ g, (vs (4 + j)).ownBlock = some g → g ≠ w.heap.size + 1 from fun j hj g hg => by have := RB.out (4 + j) (by omega) g hg; omega)
          go_wp2
          generalize (.slice A (Bk.compS (Bk.sortS (Bk.vals (ad k)))).length cap : Value) = vv at SL7
          have GV := GS.out vv
          go_roundw
          case rel => exact ⟨k + 1, Dr.upd us k vv, by omega, by go_num, Z7.out.other (by simp) _, Lib.hid (by
              have := C7.out.set (5 + k) vv
              rw [Bk.ctc_set _ _ _ _ h5] at this
              rw [Bk.ctc_eq key (fun i hi => ?_)]
              · exact this
              · refine ⟨rfl, rfl, ?_⟩
                unfold Dr.upd
                by_cases e : i = k
                · subst e
                  (try dsimp only); rw [if_pos (Nat.lt_succ_self i), if_pos rfl, if_pos rfl]
                · by_cases e2 : i < k
                  · (try dsimp only); rw [if_pos (by omega), if_neg e, if_neg e, if_pos e2]
                  · (try dsimp only); rw [if_neg (by omega), if_neg e, if_neg e2]),
            Lib.hid (fun j hj h2 => by
              exact (R7.out j hj h2).kept GV (by
                rcases hq : (vs (4 + j)).ownBlock with _ | g
                · exact .inl rfl
                · exact .inr (fun e => RC.out j h2 g hq (by injection e)))),
            Lib.hid (fun j hj => by
              unfold Dr.upd
              by_cases e : j = k
              · subst e
                rw [if_pos rfl]
                exact SL7.out.kept GV (fun g hg e => RC.out j h5 g hg (by injection e))
              · rw [if_neg e]
                exact (A7.out j (by omega)).kept GV (fun g hg e => RC.out j (by omega) g hg (by injection e))),
            Lib.hid (by
              exact ⟨GV.os.trans M7.out.os, GV.tape.trans M7.out.tape, GV.output.trans M7.out.output, Nat.le_trans M7.out.size GV.size, fun g hg hne => (GV.block g (Nat.lt_of_lt_of_le hg M7.out.size) (fun e => by injection e with e; omega)).trans (M7.out.block g hg hne)⟩)⟩
          case measure => simp [intOf]; omega
        · obtain rfl : k = 2 := by omega
          have CK := Lib.hid (show Blk wr (w.heap.size + 1) (Bk.ctc key (fun j => Bk.has (fs j)) (fun j => Bk.field (fs j)) us) 51 from by
            rw [Bk.ctc_eq key (fun i hi => ?_)]
            · exact CC.out
            · exact ⟨rfl, rfl, by (try dsimp only); rw [if_pos hi]⟩)
          have c0 : wr.cell? ⟨w.heap.size + 1, 0, none⟩ = some (.string key) := CK.out.cell rfl
          have c1 : wr.cell? ⟨w.heap.size + 1, 1, none⟩ = some (.bool (Bk.has (fs 0))) := CK.out.cell rfl
          have c2 : wr.cell? ⟨w.heap.size + 1, 2, none⟩ = some (.bool (Bk.has (fs 1))) := CK.out.cell rfl
          have c3 : wr.cell? ⟨w.heap.size + 1, 3, none⟩ = some (.string (Bk.field (fs 0))) := CK.out.cell rfl
          have c4 : wr.cell? ⟨w.heap.size + 1, 4, none⟩ = some (.string (Bk.field (fs 1))) := CK.out.cell rfl
          have c5 : wr.cell? ⟨w.heap.size + 1, 5, none⟩ = some (us 0) := CK.out.cell rfl
          have c6 : wr.cell? ⟨w.heap.size + 1, 6, none⟩ = some (us 1) := CK.out.cell rfl
          obtain ⟨A0, p0, e0, -, -⟩ := SA.out 0 (by omega)
          obtain ⟨A1, p1, e1, -, -⟩ := SA.out 1 (by omega)
          rw [e0] at c5
          rw [e1] at c6
          have fr := ZZ.out.frozen
          have f0 := fr 0; have f1 := fr 1; have f2 := fr 2; have f3 := fr 3; have f4 := fr 4; have f5 := fr 5; have f6 := fr 6
          have z0 : wr.cell? ⟨w.heap.size, 0, none⟩ = some (.string ⟨#[]⟩) := ZZ.out.cell rfl
          have z1 : wr.cell? ⟨w.heap.size, 1, none⟩ = some (.bool false) := ZZ.out.cell rfl
          have z2 : wr.cell? ⟨w.heap.size, 2, none⟩ = some (.bool false) := ZZ.out.cell rfl
          have z3 : wr.cell? ⟨w.heap.size, 3, none⟩ = some (.string ⟨#[]⟩) := ZZ.out.cell rfl
          have z4 : wr.cell? ⟨w.heap.size, 4, none⟩ = some (.string ⟨#[]⟩) := ZZ.out.cell rfl
          have z5 : wr.cell? ⟨w.heap.size, 5, none⟩ = some (.slice none 0 0) := ZZ.out.cell rfl
          have z6 : wr.cell? ⟨w.heap.size, 6, none⟩ = some (.slice none 0 0) := ZZ.out.cell rfl
          clear fr CC RT hk h5
          go_wp2
          have G9 := by_trans (by_trans (by_trans (by_trans (by_trans (by_trans (by_set' wr w.heap.size 0 (.string key)) (by_set' _ w.heap.size 1 (.bool (Bk.has (fs 0))))) (by_set' _ w.heap.size 2 (.bool (Bk.has (fs 1))))) (by_set' _ w.heap.size 3 (.string (Bk.field (fs 0))))) (by_set' _ w.heap.size 4 (.string (Bk.field (fs 1))))) (by_set' _ w.heap.size 5 (.slice A0 (Bk.set (ad 0)).length p0))) (by_set' _ w.heap.size 6 (.slice A1 (Bk.set (ad 1)).length p1))
          have K9 := ((((((ZZ.out.set 0 (.string key)).set 1 (.bool (Bk.has (fs 0)))).set 2 (.bool (Bk.has (fs 1)))).set 3 (.string (Bk.field (fs 0)))).set 4 (.string (Bk.field (fs 1)))).set 5 (.slice A0 (Bk.set (ad 0)).length p0)).set 6 (.slice A1 (Bk.set (ad 1)).length p1)
          generalize World.setCell _ ⟨w.heap.size, 6, none⟩ (.slice A1 (Bk.set (ad 1)).length p1) = W9 at *
          have k0 : W9.cell? ⟨w.heap.size, 0, none⟩ = some (.string key) := K9.cell (by simp [Bk.ctc])
          have k1 : W9.cell? ⟨w.heap.size, 1, none⟩ = some (.bool (Bk.has (fs 0))) := K9.cell (by simp [Bk.ctc])
          have k2 : W9.cell? ⟨w.heap.size, 2, none⟩ = some (.bool (Bk.has (fs 1))) := K9.cell (by simp [Bk.ctc])
          have k3 : W9.cell? ⟨w.heap.size, 3, none⟩ = some (.string (Bk.field (fs 0))) := K9.cell (by simp [Bk.ctc])
          have k4 : W9.cell? ⟨w.heap.size, 4, none⟩ = some (.string (Bk.field (fs 1))) := K9.cell (by simp [Bk.ctc])
          have k5 : W9.cell? ⟨w.heap.size, 5, none⟩ = some (.slice A0 (Bk.set (ad 0)).length p0) := K9.cell (by simp [Bk.ctc])
          have k6 : W9.cell? ⟨w.heap.size, 6, none⟩ = some (.slice A1 (Bk.set (ad 1)).length p1) := K9.cell (by simp [Bk.ctc])
          have E := show (.agg (Bk.ctc key (fun j => Bk.has (fs j)) (fun j => Bk.field (fs j)) us) : Value) = .agg #[.string key, .bool (Bk.has (fs 0)), .bool (Bk.has (fs 1)), .string (Bk.field (fs 0)), .string (Bk.field (fs 1)), .slice A0 (Bk.set (ad 0)).length p0, .slice A1 (Bk.set (ad 1)).length p1] from by simp [Bk.ctc, e0, e1]
          refine bodyPost_ret (v := .agg #[.string key, .bool (Bk.has (fs 0)), .bool (Bk.has (fs 1)), .string (Bk.field (fs 0)), .string (Bk.field (fs 1)), .slice A0 (Bk.set (ad 0)).length p0, .slice A1 (Bk.set (ad 1)).length p1]) (by simp [results, Try.results67, go_sem, k0, k1, k2, k3, k4, k5, k6]) rfl ⟨us, by rw [E], fun j hj => (SA.out j hj).kept G9 (fun g hg e => ?_), ?_⟩
          · have := RB.out (4 + j) (by omega) g hg
            injection e with e
            omega
          · exact ⟨G9.os.trans MB.out.os, G9.tape.trans MB.out.tape, G9.output.trans MB.out.output, Nat.le_trans MB.out.size G9.size, fun g hg hne => (G9.block g (Nat.lt_of_lt_of_le hg MB.out.size) (fun e => by injection e with e; omega)).trans (MB.out.block g hg hne)⟩
end Go.Proofs.Ytolpfchnfhdhkaa
