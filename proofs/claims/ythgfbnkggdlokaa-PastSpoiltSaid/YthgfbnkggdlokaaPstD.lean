/-
  The walk of past.Right.
-/
import Derived.Test.YthgfbnkggdlokaaPstC
import Derived.Test.YthgfbnkggdlokaaEvM
import Derived.WideLaws
namespace Go.Proofs.Ythgfbnkggdlokaa
open Go.RowKit
set_option maxRecDepth 100000
set_option maxRecDepth 100000

namespace Pst
def okB (qs : List (Mk × Ev)) (e : Ev) : Bool := decide (Ev.may e = 0) && fits qs e
def right (es : List Ev) : Bool := decide (es.length ≤ (keyed [] es).length) && es.all (okB (keyed [] es))
end Pst
theorem all_ev {es : List Ev} {p : Ev → Bool} (h : ∀ j, j < es.length → p (Ev.nth es j) = true) : es.all p = true := by
  rw [List.all_eq_true]
  intro e he
  obtain ⟨j, hj, rfl⟩ := List.getElem_of_mem he
  have := h j hj
  rwa [Ev.nth, List.getD_eq_getElem?_getD, List.getElem?_eq_getElem hj] at this
theorem not_all_ev {es : List Ev} {p : Ev → Bool} {j : Nat} (hj : j < es.length) (h : p (Ev.nth es j) = false) : es.all p = false := by
  rw [← Bool.not_eq_true, List.all_eq_true]
  intro ha
  have := ha es[j] (List.getElem_mem hj)
  rw [Ev.nth, List.getD_eq_getElem?_getD, List.getElem?_eq_getElem hj] at h
  simp only [Option.getD_some] at h
  rw [h] at this; cases this
def RgtRel (es : List Ev) (p : Ev → Bool) (W : World) (v : Value) (wr : World) : Prop :=
  ∃ k : Nat, k ≤ es.length ∧ v = .int .i64 k ∧ Hid (∀ j, j < k → p (Ev.nth es j) = true) ∧ Hid (Lex.Up W wr)

set_option maxHeartbeats 1600000 in
theorem right_any (es : List Ev) (A : Option Addr) (n cap : Nat) (w : World) (h : EvSl w A n cap es) :
    Calls Try.prog 22 #[.slice A n cap] w fun x w' => x = .returned (.bool (Pst.right es)) ∧ Lex.Up w w' := by
  have CK := Lib.hid (keyed_any es A n cap w h)
  have CM := Lib.hid (fun e w => evmay_any e w)
  have CF := Lib.hid (fun e b w h => fits_any (Pst.keyed [] es) e b w h)
  have SL := Lib.hid (fun w' (hu : Lex.Up w w') => EvSl.up h hu)
  have AD := Lib.hid h.addr
  have hl := h.len
  have hlim := h.lim
  have HL := Lib.hid hl
  have HV := Lib.hid (show Pst.right es = (decide (n ≤ (Pst.keyed [] es).length) && es.all (Pst.okB (Pst.keyed [] es))) by unfold Pst.right; rw [hl])
  unfold Ev.val at CM CF
  clear h hl
  generalize Pst.right es = z at *
  go_enter Try.func22, Try.ntmps22
  go_wp2_with fail
  refine CK.out.mono ?_
  rintro x w1 ⟨b, rfl, hm, hu⟩
  have M1 := Lib.hid hm
  have U1 := Lib.hid hu
  obtain ⟨me, mn, hmb, hme⟩ := hm
  have hln := run_len_map (P := Try.prog) (w := w1) 78 3 b me mn (by kernel_rfl) hmb
  have HS := Lib.hid (show me.size = (Pst.keyed [] es).length by have := congrArg List.length hme; simpa [Al.enc] using this)
  clear hu hme CK
  generalize hq : Pst.keyed [] es = qs at *
  clear hq
  by_cases hlen : n ≤ qs.length
  · have hd : decide (me.size < n) = false := by rw [HS.out]; simp; omega
    have HV2 := Lib.hid (show z = es.all (Pst.okB qs) by rw [HV.out]; simp [hlen])
    clear HV hlen
    go_wp2
    clear hmb hd hln
    go_loopw [15] (fun v wr => RgtRel es (Pst.okB qs) w1 v wr) (fun v _ => n - (intOf v).toNat)
    case atStart => exact ⟨0, by omega, rfl, Lib.hid (fun j hj => absurd hj (by omega)), Lib.hid (Lex.Up.refl w1)⟩
    case round =>
      obtain ⟨k, hk, rfl, HA, UR⟩ := hrel
      rw [HL.out] at hk
      by_cases h5 : k < n
      · have h5' : (k : Int) < n := by omega
        obtain ⟨b1, off, rfl⟩ := AD.out (by omega)
        obtain ⟨e0, e1, e2, e3, e4, e5, e6, e7, e8, e9, e10, e11⟩ := ev_at (SL.out wr (U1.out.trans UR.out)) h5
        have HZ := Lib.hid (show Pst.okB qs (Ev.nth es k) = false → z = false from fun h => by
          rw [HV2.out, not_all_ev (j := k) (by rw [HL.out]; exact h5) h])
        have HN := Lib.hid (fun (h : Pst.okB qs (Ev.nth es k) = true) => (show ∀ j, j < k + 1 → Pst.okB qs (Ev.nth es j) = true from fun j hj => by
          rcases Nat.lt_succ_iff_lt_or_eq.1 hj with h1 | rfl
          · exact HA.out j h1
          · exact h))
        have HO := Lib.hid (show Pst.okB qs (Ev.nth es k) = (decide (Ev.may (Ev.nth es k) = 0) && Pst.fits qs (Ev.nth es k)) from rfl)
        generalize hg : Ev.nth es k = e at e0 e1 e2 e3 e4 e5 e6 e7 e8 e9 e10 e11 HZ HN HO
        have C1 := Lib.hid (fun w => CM.out e w)
        have C2 := Lib.hid (fun w h => CF.out e b w h)
        clear hg HA CM CF HV2
        generalize Pst.okB qs e = ok at *
        generalize Ev.may e = m at *
        generalize Pst.fits qs e = q at *
        go_upto_region 7 with (fail)
        refine wp_named (fun W hW => ?_)
        have KA := Lib.hid (show Blk W wr.heap.size e.cells 51 by rw [hW]; exact Blk.new wr e.cells 51)
        have UW := Lib.hid (show Lex.Up w1 W by rw [hW]; exact UR.out.alloc UR.out.size _)
        clear hW e0 e1 e2 e3 e4 e5 e6 e7 e8 e9 e10 e11 UR
        obtain ⟨a0, a1, a2, a3, a4, a5, a6, a7, a8, a9, a10, a11⟩ := KA.out.ev12
        go_wp2_with fail
        refine (C1.out _).mono ?_
        rintro x w2 ⟨rfl, hu⟩
        have KA2 := Lib.hid (KA.out.up hu)
        have U2 := Lib.hid (UW.out.trans hu)
        clear hu KA UW C1 a0 a1 a2 a3 a4 a5 a6 a7 a8 a9 a10 a11
        obtain ⟨a0, a1, a2, a3, a4, a5, a6, a7, a8, a9, a10, a11⟩ := KA2.out.ev12
        by_cases hm0 : m = 0
        · subst hm0
          simp only [decide_true, Bool.true_and] at HO
          go_wp2_with fail
          refine (C2.out _ (M1.out.up U2.out)).mono ?_
          rintro x w3 ⟨rfl, hu⟩
          have U3 := Lib.hid (U2.out.trans hu)
          clear hu C2 KA2 U2 a0 a1 a2 a3 a4 a5 a6 a7 a8 a9 a10 a11
          cases q
          · obtain rfl := HZ.out HO.out
            go_wp2
            go_ret
            exact ⟨rfl, U1.out.trans U3.out⟩
          · have HN2 := Lib.hid (HN.out HO.out)
            go_wp2
            go_roundw
            case rel => exact ⟨k + 1, by rw [HL.out]; omega, by go_num, HN2, U3⟩
            case measure => simp [intOf]; omega
        · have hm1 : (m != 0) = true := by simpa using hm0
          have hz := HZ.out (by rw [HO.out]; simp [hm0])
          subst hz
          clear hm0 HO HN C2 HZ
          go_wp2
          go_ret
          exact ⟨rfl, U1.out.trans U2.out⟩
      · obtain rfl : k = n := by omega
        have hz : z = true := by rw [HV2.out, all_ev (fun j hj => HA.out j (by rw [← HL.out]; exact hj))]
        subst hz
        clear HA HV2 CM CF
        go_wp2
        go_ret
        exact ⟨rfl, U1.out.trans UR.out⟩
  · have hd : decide (me.size < n) = true := by rw [HS.out]; simp; omega
    have hz : z = false := by rw [HV.out]; simp [hlen]
    subst hz
    clear HV hlen
    go_wp2
    go_ret
    exact ⟨rfl, U1.out⟩
end Go.Proofs.Ythgfbnkggdlokaa
