/-
  The walks of event.seen, and of what it hands back.
-/
import Derived.Test.YthgfbnkggdlokaaEvS
import Derived.StillTailTactics
namespace Go.Proofs.Ythgfbnkggdlokaa
open Go.RowKit
set_option maxRecDepth 100000

theorem EF : Elem Try.prog 152 141 .nilFunc 1 8 := ⟨Try.underlying152, by kernel_rfl, rfl, by decide⟩
/-- None of these blocks is a row of type t. -/
def Sep (lo hi : Nat) (w : World) (t : TypeId) : Prop := ∀ k cs fr, lo ≤ k → k < hi → w.heap[k]? ≠ some (.cells cs t fr)
theorem Sep.later {lo hi : Nat} {w w' : World} {t : TypeId} (h : Sep lo hi w t) (hk : Keep lo hi w w') : Sep lo hi w' t := fun k cs fr h1 h2 => by rw [hk k h1 h2]; exact h k cs fr h1 h2
theorem number_sep (p : Addr) (lo hi : Int) (hi2 : hi ≤ 9223372036854775807) (w : World) : Calls Try.prog 123 #[.pointer (some p), .int .u64 lo, .int .u64 hi] w fun x w' =>
    ∃ g caps, x = .returned (.func (.func g) #[] caps) ∧ Lex.Up w w' ∧ LeafAt w.heap.size w'.heap.size w' (.func (.func g) #[] caps) p (fun m : Nat => .int .i64 (m : Nat)) (Fl.numR lo hi) ∧ Sep w.heap.size w'.heap.size w' 141 := by
  have HB := Lib.hid (box3_is w (.pointer (some p)) (.int .u64 lo) (.int .u64 hi) 123 67 67)
  have eg := enters Try.func134 (by kernel_rfl) rfl
  have EG := Lib.hid eg; clear eg
  go_enter Try.func123, Try.ntmps123
  go_wp2
  go_ret
  obtain ⟨b1, b2, b3, hu, hz⟩ := HB.out
  refine ⟨_, _, rfl, hu, ⟨_, _, rfl, EG.out, fun W A n cap xs hk hp hf hs => ?_⟩, fun k cs fr h1 h2 => ?_⟩
  · change Keep w.heap.size (box3 w (.pointer (some p)) (.int .u64 lo) (.int .u64 hi) 123 67 67).heap.size _ W at hk
    rw [hz] at hk
    exact number1_any (w.heap.size + 1) (w.heap.size + 1 + 1) w.heap.size lo hi p A n cap xs W hi2 ((hk.blk b2 (by omega) (by omega)).cell rfl) ((hk.blk b3 (by omega) (by omega)).cell rfl) ((hk.blk b1 (by omega) (by omega)).cell rfl) hp hf hs
  · change k < (box3 w (.pointer (some p)) (.int .u64 lo) (.int .u64 hi) 123 67 67).heap.size at h2
    change (box3 w (.pointer (some p)) (.int .u64 lo) (.int .u64 hi) 123 67 67).heap[k]? ≠ _
    rw [hz] at h2
    have h3 : k = w.heap.size ∨ k = w.heap.size + 1 ∨ k = w.heap.size + 1 + 1 := by omega
    unfold Blk at b1 b2 b3
    rcases h3 with rfl | rfl | rfl
    · rw [b1]; simp
    · rw [b2]; simp
    · rw [b3]; simp

/-- Closures made so far, each with its own boxes. -/
def AllOk (b B : Nat) (w : World) : List Value → List Fl → Prop
  | [], [] => True
  | F :: Fs, f :: fs => (∃ lo hi, B ≤ lo ∧ hi ≤ w.heap.size ∧ FieldOk b lo hi w F f (fun _ => True) ∧ Sep lo hi w 141) ∧ Fl.Le f ∧ AllOk b B w Fs fs
  | [], _ :: _ => False
  | _ :: _, [] => False
theorem AllOk.later {b B : Nat} {w w' : World} (hz : w.heap.size ≤ w'.heap.size) (hk : ∀ lo hi, hi ≤ w.heap.size → Sep lo hi w 141 → Keep lo hi w w') : ∀ {Fs : List Value} {fs : List Fl}, AllOk b B w Fs fs → AllOk b B w' Fs fs
  | [], [], _ => trivial
  | _ :: _, _ :: _, ⟨⟨lo, hi, h1, h2, h3, h4⟩, hl, hr⟩ => ⟨⟨lo, hi, h1, by omega, h3.later (hk lo hi h2 h4) (Nat.le_refl _) (Nat.le_refl _), h4.later (hk lo hi h2 h4)⟩, hl, hr.later hz hk⟩
  | [], _ :: _, h => h.elim
  | _ :: _, [], h => h.elim
theorem AllOk.up {b B : Nat} {w w' : World} (hu : Lex.Up w w') {Fs : List Value} {fs : List Fl} (h : AllOk b B w Fs fs) : AllOk b B w' Fs fs := h.later hu.size fun _ _ hh _ => Keep.up hu hh
theorem AllOk.grown {b B BB n : Nat} {w w' : World} {v : Value} {ys : List Value} (hown : w.ownsRow BB 141 1 v n ys) (hg : w.grownBy w' v.ownBlock) {Fs : List Value} {fs : List Fl} (h : AllOk b B w Fs fs) : AllOk b B w' Fs fs :=
  h.later hg.size fun _ _ hh hs k h1 h2 => hg.block k (by omega) fun e => by
    rcases hown.2 with ⟨rfl, _⟩ | ⟨g, cap, cur, rfl, _, hgg, _⟩
    · simp [Value.ownBlock] at e
    · simp [Value.ownBlock] at e
      subst e
      exact hs k cur (0, 0) h1 h2 hgg
theorem AllOk.snoc {b B : Nat} {w : World} {F : Value} {f : Fl} (hF : ∃ lo hi, B ≤ lo ∧ hi ≤ w.heap.size ∧ FieldOk b lo hi w F f (fun _ => True) ∧ Sep lo hi w 141) (hl : Fl.Le f) : ∀ {Fs : List Value} {fs : List Fl}, AllOk b B w Fs fs → AllOk b B w (Fs ++ [F]) (fs ++ [f])
  | [], [], _ => ⟨hF, hl, trivial⟩
  | _ :: _, _ :: _, ⟨h1, h2, hr⟩ => ⟨h1, h2, hr.snoc hF hl⟩
  | [], _ :: _, h => h.elim
  | _ :: _, [], h => h.elim
theorem AllOk.row {b B : Nat} {w : World} : ∀ {Fs : List Value} {fs : List Fl}, AllOk b B w Fs fs → RowOk b B w.heap.size w Fs fs (fun _ => True)
  | [], [], _ => trivial
  | _ :: _, _ :: _, ⟨⟨_, _, h1, h2, h3, _⟩, hl, hr⟩ => ⟨h3.later (Keep.refl _ _ _) h1 h2, hl, fun _ => True, fun _ _ _ _ => trivial, hr.row⟩
  | [], _ :: _, h => h.elim
  | _ :: _, [], h => h.elim

def SeenRel (b B : Nat) (w : World) (r : Int) (v5 v7 : Value) (wr : World) : Prop :=
  ∃ (i : Nat) (Fs : List Value), i ≤ 5 ∧ v7 = .int .i64 i ∧ Fs.length ≤ i ∧ Hid (wr.ownsRow B 141 1 v5 Fs.length Fs) ∧ Hid (Lex.Up w wr) ∧ Hid (AllOk b B wr Fs (Fl.ots r i))
theorem ots_some (r : Int) : (Fl.ots r 5).length ≠ 0 := by
  simp only [Fl.ots, List.length_append]
  by_cases h : r = 0
  · subst h; simp
  · rw [if_neg (show ¬ ((0 : Nat) : Int) = r by omega)]; simp
theorem AllOk.len {b B : Nat} {w : World} : ∀ {Fs : List Value} {fs : List Fl}, AllOk b B w Fs fs → fs.length = Fs.length
  | [], [], _ => rfl
  | _ :: _, _ :: _, ⟨_, _, hr⟩ => by simp [hr.len]
  | [], _ :: _, h => h.elim
  | _ :: _, [], h => h.elim
def seenPre (e : Ev) : Prop := 0 ≤ e.r ∧ e.r < 5 ∧ 1 ≤ e.n ∧ e.n ≤ 1048576

set_option maxRecDepth 100000 in
set_option maxHeartbeats 2000000 in
theorem seen1_any (b bx : Nat) (w : World) (hbx : w.cell? ⟨bx, 0, none⟩ = some (.pointer (some ⟨b, 0, none⟩))) (e : Ev) (hb : Blk w b e.cells 51) (hpre : seenPre e) (A : Option Addr) (n cap : Nat) (xs : List Nat) (hs : SlcB b w A n cap xs) :
    Calls Try.prog 135 #[.slice A n cap, .pointer (some ⟨bx, 0, none⟩)] w fun x w' => x = .returned (.tuple #[.int .i64 ((Fl.seenF e xs).2.1 : Nat), .int .i64 ((Fl.seenF e xs).2.2 : Nat)]) ∧
      Blk w' b (Fl.seenF e xs).1.cells 51 ∧ w.grownBy w' (some b) := by
  have CN := Lib.hid (fun p w => number_sep p 0 1048576 (by decide) w)
  have e0 : Fl.seenF e xs = Fl.row (Fl.ots e.r 5) { e with c := e.c.set e.r.toNat (e.n - 1) } xs := rfl
  obtain ⟨R, hR⟩ : ∃ R, Fl.seenF e xs = R := ⟨_, rfl⟩
  rw [hR]
  rw [hR] at e0
  have HR := Lib.hid e0
  clear hR e0
  have lx : bx < w.heap.size := World.block_lt_of_cell? w _ hbx
  have lb : b < w.heap.size := hb.lt
  have HX := Lib.hid (show ∀ w', Lex.Up w w' → w'.cell? ⟨bx, 0, none⟩ = some (.pointer (some ⟨b, 0, none⟩)) from fun w' hu => (hu.cell (p := ⟨bx, 0, none⟩) lx).trans hbx)
  have HB := Lib.hid hb; have HS := Lib.hid hs
  obtain ⟨p1, p2, p3, p4⟩ := hpre
  clear hb hs hbx
  have H0 := Lib.hid (show SeenRel b w.heap.size w e.r (.slice none 0 0) (.int .i64 0) w from ⟨0, [], by omega, rfl, by simp, Lib.hid (World.ownsRow_nil _ _ _ _), Lib.hid (Lex.Up.refl w), Lib.hid trivial⟩)
  go_enter Try.func135, Try.ntmps135
  go_wp2
  go_loopw [5, 7] (fun v5 v7 wr => SeenRel b w.heap.size w e.r v5 v7 wr) (fun _ v7 _ => 5 - (intOf v7).toNat)
  case atStart => exact H0.out
  case round =>
    obtain ⟨i, Fs, hi, rfl, hl, KO, KU, KA⟩ := hrel
    clear H0
    by_cases h5 : i < 5
    · have h5' : (i : Int) < 5 := by omega
      have q1 := HX.out wr KU.out
      have q2 : wr.cell? ⟨b, 0, none⟩ = some (.int .i64 e.r) := (HB.out.up KU.out).cell rfl
      have HOT := Lib.hid (show Fl.ots e.r (i + 1) = Fl.ots e.r i ++ if (i : Int) = e.r then [] else [Fl.leaf (Fl.numR 0 1048576) (Fl.setC i)] from rfl)
      by_cases hir : (i : Int) = e.r
      · have d0 : ((i : Int) == e.r) = true := by simpa using hir
        have d1 : ((i : Int) != e.r) = false := by simp [bne, d0]
        rw [if_pos hir] at HOT
        clear hir
        go_wp2
        go_roundw
        case rel => exact ⟨i + 1, Fs, by omega, by go_num, by omega, KO, KU, Lib.hid (by rw [HOT.out, List.append_nil]; exact KA.out)⟩
        case measure => simp [intOf]; omega
      · have d0 : ((i : Int) == e.r) = false := by simpa using hir
        have d1 : ((i : Int) != e.r) = true := by simp [bne, d0]
        rw [if_neg hir] at HOT
        clear hir
        go_wp2_with fail
        refine (CN.out _ _).mono ?_
        rintro x w2 ⟨g, caps, rfl, hu2, hl2, hs2⟩
        have U2 := Lib.hid (KU.out.trans hu2)
        have ZB : w.heap.size ≤ wr.heap.size := KU.out.size
        have ZC : w.heap.size ≤ w2.heap.size := U2.out.size
        have uA := up_blk (cs := #[.func (.func g) #[] caps]) (t := 141) (Lex.Up.refl w2)
        have OA := Lib.hid ((own_up KO.out hu2).alloc (.cells #[.func (.func g) #[] caps] 141))
        have SA := Lib.hid (show Sl (w2.alloc (.cells #[.func (.func g) #[] caps] 141)) 1 (some ⟨w2.heap.size, 0, none⟩) 1 1 [.func (.func g) #[] caps] from Sl.of_blk (Blk.new w2 #[.func (.func g) #[] caps] 141) rfl (by decide))
        have UA := Lib.hid (up_blk (cs := #[.func (.func g) #[] caps]) (t := 141) U2.out)
        have hfl : AllOk b w.heap.size w2 (Fs ++ [.func (.func g) #[] caps]) (Fl.ots e.r (i + 1)) := by
          rw [HOT.out]
          exact (KA.out.up hu2).snoc ⟨wr.heap.size, w2.heap.size, ZB, Nat.le_refl _, fC h5 hl2 _, hs2⟩ (Fl.leaf_le (Fl.numR_le 0 1048576))
        have FA := Lib.hid (hfl.up uA)
        have ZA : w.heap.size ≤ (w2.alloc (.cells #[.func (.func g) #[] caps] 141)).heap.size := by simp; omega
        clear hfl uA hl2 hs2 hu2 q1 q2
        go_wp2_with (at_builtin; refine EF.wpList_append (by rfl) _ _ rfl w.heap.size _ Fs.length Fs rfl OA.out (some ⟨w2.heap.size, 0, none⟩) 1 1 [.func (.func g) #[] caps] rfl SA.out (by simp [Value.oneCell']) (by omega) (by simp only [maxLen]; omega) ZA ?_)
        intro v6 w6 hown6 hg6
        have K6 := Lib.hid (show w6.ownsRow w.heap.size 141 1 v6 (Fs ++ [Value.func (.func g) #[] caps]).length (Fs ++ [Value.func (.func g) #[] caps]) by simpa using hown6)
        have A6 := Lib.hid (FA.out.grown OA.out hg6)
        have U6 := Lib.hid (up_grown UA.out OA.out hg6)
        clear hown6 hg6 OA SA FA KA KU KO U2 UA
        go_wp2
        go_roundw
        case rel => exact ⟨i + 1, Fs ++ [Value.func (.func g) #[] caps], by omega, by go_num, by simp; omega, K6, U6, A6⟩
        case measure => simp [intOf]; omega
    · obtain rfl : i = 5 := by omega
      clear hi h5
      have q1 := HX.out wr KU.out
      obtain ⟨r, hr, hr5⟩ : ∃ r : Nat, e.r = r ∧ r < 5 := ⟨e.r.toNat, by omega, by omega⟩
      have BW := Lib.hid (HB.out.up KU.out)
      have q2 : wr.cell? ⟨b, 0, none⟩ = some (.int .i64 (r : Nat)) := by rw [← hr]; exact BW.out.cell rfl
      have q3 : wr.cell? ⟨b, 1, none⟩ = some (.int .i64 e.n) := BW.out.cell rfl
      have q4 : wr.cell? ⟨b, 2 + r, none⟩ = some (.int .i64 (e.c.get r)) := BW.out.at_ hr5
      have q5 := BW.out.frozen (2 + r)
      have wn : IntKind.i64.wrap (e.n - 1) = e.n - 1 := IntWalk.i64_in _ ⟨by omega, by omega⟩
      have hr5' : (r : Int) < 5 := by omega
      have KL : (Fl.ots e.r 5).length = Fs.length := KA.out.len
      have hl0 := ots_some e.r
      have KX := Lib.hid KO.out
      rcases KO.out.2 with ⟨-, h0⟩ | ⟨g, cap', cur, rfl, hBg, hg, -⟩
      · exact absurd (by rw [KL, h0]) hl0
      have lg : g < wr.heap.size := (Array.getElem?_eq_some_iff.1 hg).1
      clear hg hl0 KL KO
      go_wp2
      refine wp_region_still_tail 13 (by kernel_rfl) (by kernel_rfl) ?_
      simp only [List.take_succ_cons, List.take_zero, List.drop_succ_cons, List.drop_zero]
      change wpStill _ _ wr.drew _ _ _
      repeat still_step
      refine wpStill_nil ?_
      change wpList _ _ _ _ _ wr.drew
      go_upto_region 9 with (fail)
      refine wp_named (fun W hW => ?_)
      try rw [wn] at hW
      change W = wr.drew.setCell ⟨b, 2 + r, none⟩ (.int .i64 (e.n - 1)) at hW
      have e1 : Fl.row (Fl.ots e.r 5) { e with c := e.c.set r (e.n - 1) } xs = R := by rw [HR.out, hr]; rfl
      have B1 := Lib.hid (show Blk W b (Ev.cells { e with c := e.c.set r (e.n - 1) }) 51 by
        have h1 := (BW.out.up (Lex.Up.drew wr)).set (2 + r) (.int .i64 (e.n - 1))
        rw [← hW] at h1
        have h2 : e.cells.setIfInBounds (2 + r) (.int .i64 (e.n - 1)) = Ev.cells { e with c := e.c.set r (e.n - 1) } := by
          match r, hr5 with
          | 0, _ | 1, _ | 2, _ | 3, _ | 4, _ => rfl
        rw [h2] at h1; exact h1)
      have gR : wr.grownBy W (some b) := by rw [hW]; exact (up_by (Lex.Up.drew wr) _).trans (by_set wr.drew ⟨b, 2 + r, none⟩ _)
      have G1 := Lib.hid ((up_by KU.out (some b)).trans gR)
      have kp := Keep.grown (lo := w.heap.size) (hi := wr.heap.size) gR lb (Nat.le_refl _)
      have CR := Lib.hid (row_any b w.heap.size wr.heap.size W Fs (Fl.ots e.r 5) (fun _ => True) (KA.out.row.later kp (Nat.le_refl _) (Nat.le_refl _)) g 0 cap' lb gR.size hBg lg
        (fun j F hj => by
          rw [kp.cell (p := ⟨g, 0 + j, none⟩) hBg lg]
          have := KX.out.cells (g := g) rfl j F hj
          rwa [show (⟨g, 0, none⟩ : Addr).add j = ⟨g, 0 + j, none⟩ by unfold Addr.add; split <;> simp_all] at this) (by omega))
      have E1 := Lib.hid e1
      clear hW q1 q2 q3 q4 q5 wn KA KX gR kp e1 HR
      go_wp2_with fail
      refine CR.out.mono ?_
      rintro x w2 ⟨F, rfl, hu2, g2, caps2, rfl, eg2, hc2⟩
      have C2 := Lib.hid (hc2 w2 _ A n cap xs (Keep.refl _ _ _) (B1.out.up hu2) ((HS.out.by_ G1.out).by_ (up_by hu2 _)) trivial)
      have G2 := Lib.hid (G1.out.trans (up_by hu2 (some b)))
      clear hc2 hu2 CR G1 B1
      go_wp2_with fail
      refine C2.out.mono ?_
      rintro x w3 ⟨rfl, hb3, hg3⟩
      have E3 := E1.out
      rw [E3] at hb3 ⊢
      have B3 := Lib.hid hb3
      have G3 := Lib.hid (G2.out.trans hg3)
      clear hb3 hg3 E3 E1 C2 G2 eg2
      go_wp2
      go_ret2
      exact ⟨rfl, B3.out, G3.out⟩
theorem seen_any (b lo : Nat) (w : World) (hlo : lo ≤ w.heap.size) : Calls Try.prog 124 #[.pointer (some ⟨b, 0, none⟩)] w fun x w' => ∃ F, x = .returned F ∧ Lex.Up w w' ∧ FieldOk b lo w'.heap.size w' F Fl.seenF seenPre := by
  have KA := Lib.hid (Blk.new w #[.pointer (some ⟨b, 0, none⟩)] 146)
  have U0 := Lib.hid (show Lex.Up w (w.alloc (.cells #[.pointer (some ⟨b, 0, none⟩)] 146)) from (Below.refl w.heap.size w).alloc (Nat.le_refl _) _)
  have eg := enters Try.func135 (by kernel_rfl) rfl
  have EG := Lib.hid eg; clear eg
  go_enter Try.func124, Try.ntmps124
  go_wp2
  go_ret
  refine ⟨_, rfl, U0.out, _, _, rfl, EG.out, fun W e A n cap xs hk hb' hs hp => ?_⟩
  change Keep lo (w.alloc (.cells #[.pointer (some ⟨b, 0, none⟩)] 146)).heap.size (w.alloc (.cells #[.pointer (some ⟨b, 0, none⟩)] 146)) W at hk
  have hsz : (w.alloc (.cells #[.pointer (some ⟨b, 0, none⟩)] 146)).heap.size = w.heap.size + 1 := by simp
  rw [hsz] at hk
  exact seen1_any b w.heap.size W ((hk.blk KA.out (by omega) (by omega)).cell rfl) e hb' hp A n cap xs hs
end Go.Proofs.Ythgfbnkggdlokaa
