/-
  The walks of event.row, and of what it hands back.
-/
import Derived.Test.YthgfbnkggdlokaaEvW
namespace Go.Proofs.Ythgfbnkggdlokaa
open Go.RowKit
set_option maxRecDepth 100000

theorem Keep.cell {lo hi : Nat} {w w' : World} (h : Keep lo hi w w') {p : Addr} (h1 : lo ≤ p.block) (h2 : p.block < hi) : w'.cell? p = w.cell? p := by
  unfold World.cell?; rw [h p.block h1 h2]
def RowOk (b lo hi : Nat) (w0 : World) : List Value → List Fl → (Ev → Prop) → Prop
  | [], [], _ => True
  | F :: Fs, f :: fs, pre => FieldOk b lo hi w0 F f pre ∧ Fl.Le f ∧ ∃ post : Ev → Prop, (∀ e xs, pre e → (f e xs).2.2 = 0 → post (f e xs).1) ∧ RowOk b lo hi w0 Fs fs post
  | [], _ :: _, _ => False
  | _ :: _, [], _ => False
theorem RowOk.later {b lo hi lo' hi' : Nat} {w0 w1 : World} (hk : Keep lo hi w0 w1) (h1 : lo' ≤ lo) (h2 : hi ≤ hi') : ∀ {Fs : List Value} {fs : List Fl} {pre : Ev → Prop}, RowOk b lo hi w0 Fs fs pre → RowOk b lo' hi' w1 Fs fs pre
  | [], [], _, _ => trivial
  | _ :: _, _ :: _, _, ⟨hf, hl, post, hp, hr⟩ => ⟨hf.later hk h1 h2, hl, post, hp, RowOk.later hk h1 h2 hr⟩
  | [], _ :: _, _, h => h.elim
  | _ :: _, [], _, h => h.elim
theorem RowOk.len {b lo hi : Nat} {w0 : World} : ∀ {Fs : List Value} {fs : List Fl} {pre : Ev → Prop}, RowOk b lo hi w0 Fs fs pre → fs.length = Fs.length
  | [], [], _, _ => rfl
  | _ :: _, _ :: _, _, ⟨_, _, _, _, hr⟩ => by simp [RowOk.len hr]
  | [], _ :: _, _, h => h.elim
  | _ :: _, [], _, h => h.elim

def RowRel (b lo hi : Nat) (w0 : World) (Fs : List Value) (fs : List Fl) (n : Nat) (xs : List Nat) (w : World) (R : Ev × Nat × Nat) (v5 v12 : Value) (wr : World) : Prop :=
  ∃ (i u : Nat) (e1 : Ev) (pre : Ev → Prop), i ≤ Fs.length ∧ v12 = .int .i64 i ∧ v5 = .int .i64 u ∧ u ≤ n ∧ Hid (RowOk b lo hi w0 (Fs.drop i) (fs.drop i) pre) ∧ Hid (pre e1) ∧ Hid (Blk wr b e1.cells 51) ∧ Hid (w.grownBy wr (some b)) ∧ Hid (Fl.rowG (fs.drop i) e1 xs u = R)

set_option maxRecDepth 100000 in
set_option maxHeartbeats 1000000 in
theorem row1_any (b lo hi : Nat) (w0 w : World) (Fs : List Value) (fs : List Fl) (pre : Ev → Prop) (hok : RowOk b lo hi w0 Fs fs pre) (bx bf off mc : Nat) (hbl : b < lo) (hh : hi ≤ w.heap.size) (hk : Keep lo hi w0 w)
    (hbx : w.cell? ⟨bx, 0, none⟩ = some (.slice (some ⟨bf, off, none⟩) Fs.length mc)) (hbf : bf ≠ b) (hF : ∀ (j : Nat) (F : Value), Fs[j]? = some F → w.cell? ⟨bf, off + j, none⟩ = some F)
    (hlen : Fs.length ≤ 1000) (e : Ev) (hb : Blk w b e.cells 51) (hpre : pre e) (A : Option Addr) (n cap : Nat) (xs : List Nat) (hs : SlcB b w A n cap xs) :
    Calls Try.prog 132 #[.slice A n cap, .pointer (some ⟨bx, 0, none⟩)] w fun x w' => x = .returned (.tuple #[.int .i64 ((Fl.row fs e xs).2.1 : Nat), .int .i64 ((Fl.row fs e xs).2.2 : Nat)]) ∧
      Blk w' b (Fl.row fs e xs).1.cells 51 ∧ w.grownBy w' (some b) := by
  obtain ⟨R, hR⟩ : ∃ R, Fl.row fs e xs = R := ⟨_, rfl⟩
  rw [hR]
  have HR := Lib.hid hR
  have HS := Lib.hid hs
  have HF := Lib.hid hF
  have HL := Lib.hid hok.len
  have HK := Lib.hid hk
  have h0 : RowRel b lo hi w0 Fs fs n xs w R (.int .i64 0) (.int .i64 0) w := ⟨0, 0, e, pre, by omega, rfl, rfl, by omega, Lib.hid (by simpa using hok), Lib.hid hpre, Lib.hid hb, Lib.hid (World.grownBy.refl _ _), Lib.hid (by rw [List.drop_zero]; exact hR)⟩
  have H0 := Lib.hid h0
  have hcn : cap ≤ 9223372036854775807 := hs.1.2.2.1
  have hnc : n ≤ cap := hs.1.2.1
  have hln : xs.length = n := hs.1.1
  clear hR hs hF hok hk h0 hb hpre
  go_enter Try.func132, Try.ntmps132
  go_wp2
  go_loopw [5, 12] (fun v5 v12 wr => RowRel b lo hi w0 Fs fs n xs w R v5 v12 wr) (fun _ v12 _ => Fs.length - (intOf v12).toNat)
  case atStart => exact H0.out
  case round =>
    obtain ⟨i, u, e1, pre1, hi1, rfl, rfl, hu, KO, KP, KB, KG, KR⟩ := hrel
    clear H0
    by_cases hlt : i < Fs.length
    · have h1 := KO.out
      have h2 := KR.out
      have e1' : Fs.drop i = Fs[i] :: Fs.drop (i + 1) := List.drop_eq_getElem_cons hlt
      have hfl : i < fs.length := by rw [HL.out]; exact hlt
      have e2' : fs.drop i = fs[i] :: fs.drop (i + 1) := List.drop_eq_getElem_cons hfl
      have hFi : Fs[i]? = some Fs[i] := by simp [hlt]
      have hc := HF.out i _ hFi
      rw [e1', e2'] at h1
      rw [e2', Fl.rowG] at h2
      generalize Fs[i] = F at *
      generalize fs[i] = f at *
      obtain ⟨⟨g, caps, rfl, eg, hcall⟩, hle, post, hpost, hrow⟩ := h1
      have hcw : wr.cell? ⟨bf, off + i, none⟩ = some (.func (.func g) #[] caps) := KG.out.cell hc (by simpa using hbf)
      have hK2 : Keep lo hi w0 wr := HK.out.trans (Keep.grown KG.out hbl hh)
      have CF := Lib.hid (hcall wr e1 _ (n - u) (cap - u) (xs.drop u) hK2 KB.out ((HS.out.by_ KG.out).drop hu) KP.out)
      have LE := hle e1 (xs.drop u)
      rw [List.length_drop, hln] at LE
      have PO := Lib.hid (hpost e1 (xs.drop u) KP.out)
      have RO := Lib.hid hrow
      have R2 := Lib.hid h2
      clear hcall hpost hrow h2 hK2 hc hFi e1' e2' hle KO KP KR KB
      generalize f e1 (xs.drop u) = T at *
      obtain ⟨e2, k, z⟩ := T
      have hu' : (u : Int) ≤ n := by omega
      have hlt' : (i : Int) < Fs.length := by omega
      clear hlt
      by_cases hcu : cap = u
      · rw [if_pos hcu] at CF
        subst hcu
        rw [show n - cap = 0 by omega, Nat.sub_self] at CF
        go_wp2_with fail
        refine CF.out.mono ?_
        rintro x w2 ⟨rfl, hb2, hg2⟩
        have KB2 := Lib.hid hb2
        have KG2 := Lib.hid (KG.out.trans hg2)
        have hR := R2.out
        clear hb2 hg2 KG CF R2
        by_cases hz : z = 0
        · subst hz
          rw [if_pos rfl] at hR
          have HR2 := Lib.hid hR
          clear hR
          go_wp2
          go_roundw
          case rel => exact ⟨i + 1, cap + k, e2, post, by omega, by go_num, by go_num, by omega, RO, Lib.hid (by first | exact PO.out rfl | exact PO.out trivial | exact PO.out), KB2, KG2, HR2⟩
          case measure => simp [intOf]; omega
        · rw [if_neg hz] at hR
          have z0 : ((z : Int) == 0) = false := by simp; omega
          have z1 : ((z : Int) != 0) = true := by simp [bne, z0]
          have HR2 := Lib.hid hR
          clear hR hz
          go_wp2
          go_ret2
          rw [← HR2.out]
          exact ⟨rfl, KB2.out, KG2.out⟩
      · rw [if_neg hcu] at CF
        go_wp2_with fail
        refine CF.out.mono ?_
        rintro x w2 ⟨rfl, hb2, hg2⟩
        have KB2 := Lib.hid hb2
        have KG2 := Lib.hid (KG.out.trans hg2)
        have hR := R2.out
        clear hb2 hg2 KG CF R2
        by_cases hz : z = 0
        · subst hz
          rw [if_pos rfl] at hR
          have HR2 := Lib.hid hR
          clear hR
          go_wp2
          go_roundw
          case rel => exact ⟨i + 1, u + k, e2, post, by omega, by go_num, by go_num, by omega, RO, Lib.hid (by first | exact PO.out rfl | exact PO.out trivial | exact PO.out), KB2, KG2, HR2⟩
          case measure => simp [intOf]; omega
        · rw [if_neg hz] at hR
          have z0 : ((z : Int) == 0) = false := by simp; omega
          have z1 : ((z : Int) != 0) = true := by simp [bne, z0]
          have HR2 := Lib.hid hR
          clear hR hz
          go_wp2
          go_ret2
          rw [← HR2.out]
          exact ⟨rfl, KB2.out, KG2.out⟩
    · obtain rfl : i = Fs.length := by omega
      have h1 : fs.drop Fs.length = [] := List.drop_eq_nil_of_le (by rw [HL.out]; exact Nat.le_refl _)
      have h2 := KR.out
      rw [h1, Fl.rowG] at h2
      clear h1 hi1 KR KO KP
      subst h2
      go_wp2
      go_ret2
      exact ⟨rfl, KB.out, KG.out⟩

theorem row_any (b lo hi : Nat) (w : World) (Fs : List Value) (fs : List Fl) (pre : Ev → Prop) (hok : RowOk b lo hi w Fs fs pre) (bf off mc : Nat) (hbl : b < lo) (hh : hi ≤ w.heap.size) (h1 : lo ≤ bf) (h2 : bf < hi)
    (hF : ∀ (j : Nat) (F : Value), Fs[j]? = some F → w.cell? ⟨bf, off + j, none⟩ = some F) (hlen : Fs.length ≤ 1000) :
    Calls Try.prog 121 #[.slice (some ⟨bf, off, none⟩) Fs.length mc] w fun x w' => ∃ F, x = .returned F ∧ Lex.Up w w' ∧ FieldOk b lo w'.heap.size w' F (Fl.row fs) pre := by
  have KA := Lib.hid (Blk.new w #[.slice (some ⟨bf, off, none⟩) Fs.length mc] 152)
  have U0 := Lib.hid (show Lex.Up w (w.alloc (.cells #[.slice (some ⟨bf, off, none⟩) Fs.length mc] 152)) from (Below.refl w.heap.size w).alloc (Nat.le_refl _) _)
  have eg := enters Try.func132 (by kernel_rfl) rfl
  have EG := Lib.hid eg; clear eg
  have HO := Lib.hid hok; have HF := Lib.hid hF
  clear hok hF
  go_enter Try.func121, Try.ntmps121
  go_wp2
  go_ret
  refine ⟨_, rfl, U0.out, _, _, rfl, EG.out, fun W e A n cap xs hk hb hs hp => ?_⟩
  change Keep lo (w.alloc (.cells #[.slice (some ⟨bf, off, none⟩) Fs.length mc] 152)).heap.size (w.alloc (.cells #[.slice (some ⟨bf, off, none⟩) Fs.length mc] 152)) W at hk
  have hsz : (w.alloc (.cells #[.slice (some ⟨bf, off, none⟩) Fs.length mc] 152)).heap.size = w.heap.size + 1 := by simp
  rw [hsz] at hk
  have hk0 : Keep lo hi w W := (Keep.up U0.out hh).trans (hk.less (Nat.le_refl _) (by omega))
  have hlt : w.heap.size < W.heap.size := (hk.blk KA.out (by omega) (by omega)).lt
  exact row1_any b lo hi w W Fs fs pre HO.out w.heap.size bf off mc hbl (by omega) hk0 ((hk.blk KA.out (by omega) (by omega)).cell rfl) (by omega)
    (fun j F hj => by rw [hk0.cell (p := ⟨bf, off + j, none⟩) h1 h2]; exact HF.out j F hj) hlen e hb hp A n cap xs hs
end Go.Proofs.Ythgfbnkggdlokaa
