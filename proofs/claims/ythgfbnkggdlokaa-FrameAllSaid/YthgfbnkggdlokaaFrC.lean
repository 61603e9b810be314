/-
  The walks of what takes a frame from bytes; the codec of frames.
-/
import Derived.Test.YthgfbnkggdlokaaFrB
import Derived.Deep.RegionLaw
import Derived.Test.YthgfbnkggdlokaaEvT
import Derived.Deep.DeepCutAuto
import Derived.Test.YthgfbnkggdlokaaOpen

/-! What takes numbers from bytes, and keeps them in a frame: the walk of frame.takeNumbers. -/
namespace Go.Proofs.Ythgfbnkggdlokaa
open Go.RowKit
set_option maxRecDepth 100000

namespace Fr
/-- A number kept at place p of a frame's cells: Upto, or one of the clock. -/
def keep (f : Fr) (p : Nat) (x : Int) : Fr := if p = 2 then { f with u := x } else { f with c := f.c.set (p - 3) x }
theorem keep_cells (f : Fr) (s : Value) {p : Nat} (h2 : 2 ≤ p) (h8 : p < 8) (x : Int) : (f.cells s).setIfInBounds p (.int .i64 x) = (f.keep p x).cells s := by
  match p, h2, h8 with
  | 2, _, _ | 3, _, _ | 4, _, _ | 5, _, _ | 6, _, _ | 7, _, _ => rfl
/-- As many numbers as there are places, if that is all of the bytes; and what was kept. -/
def nums (f : Fr) : List Nat → List Nat → Fr × Bool
  | [], xs => (f, xs.isEmpty)
  | p :: ps, xs => if (Pl.take xs).2.2 = 0 then nums (f.keep p (IntKind.i64.wrap (Pl.take xs).1)) ps (xs.drop (Pl.take xs).2.1) else (f, false)
end Fr
theorem take_le (xs : List Nat) : (Pl.take xs).2.1 ≤ xs.length := by
  have := Pl.vlen_le xs
  unfold Pl.take
  split
  · simp
  · split <;> simp <;> omega

theorem by_drew {w w' : World} {r : Option Nat} (h : w.grownBy w' r) : w.grownBy w'.drew r := ⟨h.os, h.tape, h.output, h.size, h.block⟩
def NumRel (b m : Nat) (s : Value) (ps : List Nat) (w : World) (R : Fr × Bool) (v0 v12 : Value) (wr : World) : Prop :=
  ∃ (k : Nat) (g : Fr) (A : Option Addr) (n cap : Nat) (ys : List Nat), k ≤ m ∧ v12 = .int .i64 k ∧ v0 = .slice A n cap ∧ Hid (SlcB b wr A n cap ys) ∧ Hid (Blk wr b (g.cells s) 26) ∧ Hid (Fr.nums g (ps.drop k) ys = R) ∧ Hid (w.grownBy wr (some b))
set_option maxHeartbeats 1600000 in
theorem takeNumbers_any (b : Nat) (f : Fr) (s : Value) (ps : List Nat) (hps : ∀ p ∈ ps, 2 ≤ p ∧ p < 8) (A : Option Addr) (n cap : Nat) (xs : List Nat) (bt off mc : Nat) (w : World)
    (hs : SlcB b w A n cap xs) (hb : Blk w b (f.cells s) 26) (hbt : bt ≠ b) (hm : ps.length ≤ 1000) (hp : ∀ j p, ps[j]? = some p → w.cell? ⟨bt, off + j, none⟩ = some (.pointer (some ⟨b, p, none⟩))) :
    Calls Try.prog 100 #[.slice A n cap, .slice (some ⟨bt, off, none⟩) ps.length mc] w fun x w' =>
      x = .returned (.bool (Fr.nums f ps xs).2) ∧ Blk w' b ((Fr.nums f ps xs).1.cells s) 26 ∧ w.grownBy w' (some b) := by
  obtain ⟨R, hR⟩ : ∃ R, Fr.nums f ps xs = R := ⟨_, rfl⟩
  rw [hR]
  have C := Lib.hid (fun A n cap xs w h => take_any A n cap xs w h)
  have H0 := Lib.hid (show NumRel b ps.length s ps w R (.slice A n cap) (.int .i64 0) w from ⟨0, f, A, n, cap, xs, by omega, rfl, rfl, Lib.hid hs, Lib.hid hb, Lib.hid hR, Lib.hid (World.grownBy.refl _ _)⟩)
  have HP := Lib.hid hp
  have HPS := Lib.hid hps
  clear hs hb hR hp hps
  go_enter Try.func100, Try.ntmps100
  go_wp2
  go_loopw [0, 12] (fun v0 v12 wr => NumRel b ps.length s ps w R v0 v12 wr) (fun _ v12 _ => ps.length - (intOf v12).toNat)
  case atStart => exact H0.out
  case round =>
    obtain ⟨k, g, A1, n1, cap1, ys, hk, rfl, rfl, KS, KB, KR, KG⟩ := hrel
    clear H0
    have hl1 : ys.length = n1 := KS.out.1.1
    have hc1 : n1 ≤ cap1 := KS.out.1.2.1
    have hm1 : cap1 ≤ 9223372036854775807 := KS.out.1.2.2.1
    by_cases hlt : k < ps.length
    · have e1 : ps.drop k = ps[k] :: ps.drop (k + 1) := List.drop_eq_getElem_cons hlt
      have hpk : ps[k]? = some ps[k] := by simp [hlt]
      have hcell := HP.out k _ hpk
      have hpr := HPS.out ps[k] (List.getElem_mem hlt)
      have h1 := KR.out
      rw [e1, Fr.nums] at h1
      generalize ps[k] = p at *
      have hcw : wr.cell? ⟨bt, off + k, none⟩ = some (.pointer (some ⟨b, p, none⟩)) := KG.out.cell hcell (by simpa using hbt)
      have hlt' : (k : Int) < ps.length := by omega
      have LE := take_le ys
      have CT := Lib.hid (C.out A1 n1 cap1 ys wr KS.out.1)
      have SD := Lib.hid (KS.out.drop (u := (Pl.take ys).2.1) (by rw [← hl1]; exact LE))
      have hold : ∃ old, wr.cell? ⟨b, p, none⟩ = some old := by
        match p, hpr.1, hpr.2 with
        | 2, _, _ | 3, _, _ | 4, _, _ | 5, _, _ | 6, _, _ | 7, _, _ => exact ⟨_, KB.out.cell rfl⟩
      obtain ⟨old, hold⟩ := hold
      have hfz := KB.out.frozen p
      have SC := Lib.hid (fun x => g.keep_cells s hpr.1 hpr.2 x)
      clear hpk hcell e1 KR C
      generalize Pl.take ys = T at *
      obtain ⟨v, u, z⟩ := T
      simp only at h1 LE
      have R1 := Lib.hid h1
      clear h1
      go_wp2_with fail
      refine CT.out.mono ?_
      rintro x w1 ⟨rfl, rfl⟩
      clear CT
      by_cases hz : z = 0
      · subst hz
        rw [if_pos rfl] at R1
        by_cases hcu : cap1 = u
        · subst hcu
          rw [if_pos rfl, show n1 - cap1 = 0 by omega, Nat.sub_self] at SD
          have hu' : (cap1 : Int) ≤ n1 := by omega
          have hu2 : cap1 ≤ n1 := by omega
          have SE := Lib.hid ((SD.out).by_ (by_set wr ⟨b, p, none⟩ (.int .i64 (wrap64 v))))
          have KE := Lib.hid (show Blk (wr.setCell ⟨b, p, none⟩ (.int .i64 (wrap64 v))) b ((g.keep p (wrap64 v)).cells s) 26 by rw [← SC.out]; exact KB.out.set p _)
          have GE := Lib.hid (KG.out.trans (by_set wr ⟨b, p, none⟩ (.int .i64 (wrap64 v))))
          rw [IntWalk.i64_left] at R1
          go_wp2
          go_region
          go_wp2
          go_roundw
          case rel => exact ⟨k + 1, _, _, _, _, _, by omega, by go_num, rfl, SE, KE, R1, Lib.hid (by_drew GE.out)⟩
          case measure => simp [intOf]; omega
        · rw [if_neg hcu] at SD
          have hu' : (u : Int) ≤ n1 := by omega
          have hu2 : u ≤ n1 := by omega
          have SE := Lib.hid ((SD.out).by_ (by_set wr ⟨b, p, none⟩ (.int .i64 (wrap64 v))))
          have KE := Lib.hid (show Blk (wr.setCell ⟨b, p, none⟩ (.int .i64 (wrap64 v))) b ((g.keep p (wrap64 v)).cells s) 26 by rw [← SC.out]; exact KB.out.set p _)
          have GE := Lib.hid (KG.out.trans (by_set wr ⟨b, p, none⟩ (.int .i64 (wrap64 v))))
          rw [IntWalk.i64_left] at R1
          go_wp2
          go_region
          go_wp2
          go_roundw
          case rel => exact ⟨k + 1, _, _, _, _, _, by omega, by go_num, rfl, SE, KE, R1, Lib.hid (by_drew GE.out)⟩
          case measure => simp [intOf]; omega
      · have z1 : ((z : Int) != 0) = true := by simp [bne]; omega
        rw [if_neg hz] at R1
        have hR := R1.out
        subst hR
        go_wp2
        go_ret
        exact ⟨rfl, KB.out, KG.out⟩
    · obtain rfl : k = ps.length := by omega
      have h1 := KR.out
      rw [List.drop_length, Fr.nums] at h1
      subst h1
      have he : ((n1 : Int) == 0) = ys.isEmpty := by rw [← hl1]; cases ys <;> simp; omega
      go_wp2
      go_ret
      exact ⟨rfl, KB.out, KG.out⟩
/-- What takes the fields of a kind does: it keeps them in the frame of block b. -/
def TakeOk (b : Nat) (s : Value) (T : Fr × Bool) (w : World) (x : Ending) (w' : World) : Prop :=
  x = .returned (.bool T.2) ∧ Blk w' b (T.1.cells s) 26 ∧ w.grownBy w' (some b)
theorem takeUpto_any (b : Nat) (f : Fr) (s : Value) (A : Option Addr) (n cap : Nat) (xs : List Nat) (w : World) (hs : SlcB b w A n cap xs) (hb : Blk w b (f.cells s) 26) :
    Calls Try.prog 77 #[.pointer (some ⟨b, 0, none⟩), .slice A n cap] w (TakeOk b s (Fr.nums f [2] xs) w) := by
  have hlt := hb.lt
  have hg : w.grownBy (w.alloc (.cells #[.pointer (some ⟨b, 2, none⟩)] 123)) (some b) := World.grownBy_alloc _ _ _
  have C := Lib.hid (takeNumbers_any b f s [2] (by simp) A n cap xs w.heap.size 0 1 (w.alloc (.cells #[.pointer (some ⟨b, 2, none⟩)] 123)) (hs.by_ hg) (hb.alloc _) (by omega) (by simp) (fun j p hj => by
    match j with
    | 0 =>
      simp at hj
      subst hj
      exact (Blk.new w #[.pointer (some ⟨b, 2, none⟩)] 123).cell rfl
    | j + 1 => simp at hj))
  have HG := Lib.hid hg
  clear hs hb hg
  go_enter Try.func77, Try.ntmps77
  go_wp2_with fail
  refine C.out.mono ?_
  rintro x w1 ⟨rfl, hb1, hg1⟩
  have HB := Lib.hid hb1
  have HG1 := Lib.hid (HG.out.trans hg1)
  clear hb1 hg1 C
  generalize Fr.nums f [2] xs = T at *
  go_wp2
  go_ret
  exact ⟨rfl, HB.out, HG1.out⟩

theorem EPtr : Elem Try.prog 122 123 (.pointer none) 1 8 := ⟨Try.underlying122, by kernel_rfl, rfl, by decide⟩
/-- Pointers to the first i numbers of the clock of block b. -/
def ptrs (b : Nat) : Nat → List Value
  | 0 => []
  | i + 1 => ptrs b i ++ [.pointer (some ⟨b, 3 + i, none⟩)]
def PtrRel (b : Nat) (w : World) (v5 v7 : Value) (wr : World) : Prop :=
  ∃ i : Nat, i ≤ 5 ∧ v7 = .int .i64 i ∧ Hid (wr.ownsRow w.heap.size 123 1 v5 i (ptrs b i)) ∧ Hid (Lex.Up w wr)
set_option maxHeartbeats 1600000 in
theorem takeClock_any (b : Nat) (f : Fr) (s : Value) (A : Option Addr) (n cap : Nat) (xs : List Nat) (w : World) (hs : SlcB b w A n cap xs) (hb : Blk w b (f.cells s) 26) :
    Calls Try.prog 71 #[.pointer (some ⟨b, 0, none⟩), .slice A n cap] w (TakeOk b s (Fr.nums f [3, 4, 5, 6, 7] xs) w) := by
  have hlt := hb.lt
  have HS := Lib.hid (fun w' (hu : Lex.Up w w') => hs.by_ (up_by hu (some b)))
  have HB := Lib.hid (fun w' (hu : Lex.Up w w') => hb.up hu)
  clear hs hb
  go_enter Try.func71, Try.ntmps71
  go_wp2
  go_loopw [5, 7] (fun v5 v7 wr => PtrRel b w v5 v7 wr) (fun _ v7 _ => 5 - (intOf v7).toNat)
  case atStart => exact ⟨0, by omega, rfl, Lib.hid (World.ownsRow_nil _ _ _ _), Lib.hid (Lex.Up.refl w)⟩
  case round =>
    obtain ⟨i, hi, rfl, KO, KU⟩ := hrel
    by_cases h5 : i < 5
    · have h5' : (i : Int) < 5 := by omega
      have O1 := Lib.hid (own_up KO.out (up_blk (cs := #[.pointer (some ⟨b, 3 + i, none⟩)]) (t := 123) (Lex.Up.refl wr)))
      have S1 := Lib.hid (show Sl (wr.alloc (.cells #[.pointer (some ⟨b, 3 + i, none⟩)] 123)) 1 (some ⟨wr.heap.size, 0, none⟩) 1 1 [.pointer (some ⟨b, 3 + i, none⟩)] from Sl.of_blk (Blk.new wr #[.pointer (some ⟨b, 3 + i, none⟩)] 123) rfl (by decide))
      have U1 := Lib.hid (up_blk (cs := #[.pointer (some ⟨b, 3 + i, none⟩)]) (t := 123) KU.out)
      have Z1 : w.heap.size ≤ (wr.alloc (.cells #[.pointer (some ⟨b, 3 + i, none⟩)] 123)).heap.size := U1.out.size
      have hl := KO.out.1
      go_wp2_with (at_builtin; refine EPtr.wpList_append (by rfl) _ _ rfl w.heap.size _ i (ptrs b i) rfl O1.out (some ⟨wr.heap.size, 0, none⟩) 1 1 [.pointer (some ⟨b, 3 + i, none⟩)] rfl S1.out (by simp [Value.oneCell']) (by omega) (by simp only [maxLen]; omega) Z1 ?_)
      intro v9 w9 hown9 hg9
      have O9 := Lib.hid (show w9.ownsRow w.heap.size 123 1 v9 (i + 1) (ptrs b (i + 1)) from hown9)
      have U9 := Lib.hid (show Lex.Up w w9 from up_grown U1.out O1.out hg9)
      clear hown9 hg9 O1 S1 U1 Z1 hl
      go_wp2
      go_roundw
      case rel => exact ⟨i + 1, by omega, by go_num, O9, U9⟩
      case measure => simp [intOf]; omega
    · obtain rfl : i = 5 := by omega
      obtain ⟨A5, cap5, rfl, hsl⟩ := Sl.of_own KO.out
      obtain ⟨g, off, rfl, hgl, hc⟩ := hsl.2.2.2 (by omega)
      have hgb : g ≠ b := by
        have h1 := KO.out.lt g rfl
        omega
      have C := Lib.hid (takeNumbers_any b f s [3, 4, 5, 6, 7] (by simp) A n cap xs g off cap5 wr (HS.out wr KU.out) (HB.out wr KU.out) hgb (by simp) (fun j p hj => by
        match j with
        | 0 | 1 | 2 | 3 | 4 =>
          simp at hj
          subst hj
          exact hc _ _ rfl
        | j + 5 => simp at hj))
      clear HS HB KO hsl hc hi h5
      go_wp2_with fail
      refine C.out.mono ?_
      rintro x w1 ⟨rfl, hb1, hg1⟩
      have HB1 := Lib.hid hb1
      have HG1 := Lib.hid ((up_by KU.out (some b)).trans hg1)
      clear hb1 hg1 C
      generalize Fr.nums f [3, 4, 5, 6, 7] xs = T at *
      go_wp2
      go_ret
      exact ⟨rfl, HB1.out, HG1.out⟩
end Go.Proofs.Ythgfbnkggdlokaa

/-! What takes events from bytes, and keeps them in a frame: the walk of frame.takeEvents. -/
namespace Go.Proofs.Ythgfbnkggdlokaa
open Go.RowKit
set_option maxRecDepth 100000

/-- So many events, if that is all of the bytes; and what was taken so far. -/
def evsT : Nat → List Ev → List Nat → List Ev × Bool
  | 0, es, xs => (es, xs.isEmpty)
  | m + 1, es, xs => if (Fl.takeF xs).2.2 = 0 then evsT m (es ++ [(Fl.takeF xs).1]) (xs.drop (Fl.takeF xs).2.1) else (es, false)
def Fr.takeE (f : Fr) : List Nat → Fr × Bool
  | [] => (f, false)
  | c :: ys => ({ f with es := (evsT c [] ys).1 }, (evsT c [] ys).2)
theorem Fl.takeF_le (xs : List Nat) : (Fl.takeF xs).2.1 ≤ xs.length := by
  have hall : ∀ f ∈ Fl.all, Fl.Le f := fun f hf => by
    simp only [Fl.all, List.mem_cons, List.not_mem_nil, or_false] at hf
    rcases hf with rfl | rfl | rfl | rfl | rfl | rfl | rfl
    · exact Fl.leaf_le (Fl.octR_le 1 5)
    · exact Fl.leaf_le (Fl.octR_le 0 4)
    · exact Fl.leaf_le (Fl.numR_le 1 1048576)
    · exact Fl.seenF_le
    · exact Fl.leaf_le (Fl.numR_le 1 16777216)
    · exact Fl.leaf_le (Fl.wrdR_le 8 Tx.key)
    · exact Fl.writtenF_le
  have := Fl.row_le Fl.all hall Ev.zero xs
  unfold Fl.takeF
  split
  · exact this
  · simp
theorem by_row {w w1 w2 : World} {b : Nat} {r : Option Nat} (h : w.grownBy w1 (some b)) (hg : w1.grownBy w2 r) (hr : ∀ k, r = some k → w.heap.size ≤ k) : w.grownBy w2 (some b) := by
  refine ⟨hg.os.trans h.os, hg.tape.trans h.tape, hg.output.trans h.output, Nat.le_trans h.size hg.size, fun k hk hkb => ?_⟩
  refine (hg.block k (Nat.lt_of_lt_of_le hk h.size) fun e => ?_).trans (h.block k hk hkb)
  have := hr k e.symm
  omega
/-- What takes the fields of a kind does: it keeps them in the frame of block b, events in a new row. -/
def TakeFr (b : Nat) (T : Fr × Bool) (w : World) (x : Ending) (w' : World) : Prop :=
  x = .returned (.bool T.2) ∧ ∃ v, Blk w' b (T.1.cells v) 26 ∧ OwnE w' w.heap.size v T.1.es ∧ w.grownBy w' (some b)
def EvsRel (b c : Nat) (f : Fr) (w : World) (R : List Ev × Bool) (v1 v18 : Value) (wr : World) : Prop :=
  ∃ (i : Nat) (es : List Ev) (v : Value) (A : Option Addr) (n cap : Nat) (ys : List Nat), i ≤ c ∧ v18 = .int .u8 i ∧ v1 = .slice A n cap ∧ es.length = i ∧ Hid (SlcB b w A n cap ys) ∧
    Hid (Blk wr b (Fr.cells { f with es := es } v) 26) ∧ Hid (OwnE wr w.heap.size v es) ∧ Hid (evsT (c - i) es ys = R) ∧ Hid (w.grownBy wr (some b))

set_option maxHeartbeats 4000000 in
theorem takeEvents_any (b : Nat) (f : Fr) (hf : f.es = []) (A : Option Addr) (n cap : Nat) (xs : List Nat) (w : World) (hs : SlcB b w A n cap xs) (hb : Blk w b (f.cells (.slice none 0 0)) 26) :
    Calls Try.prog 74 #[.pointer (some ⟨b, 0, none⟩), .slice A n cap] w (TakeFr b (f.takeE xs) w) := by
  have hlt := hb.lt
  have hl := hs.1.1
  have hc := hs.1.2.1
  have hm := hs.1.2.2.1
  have CT := Lib.hid (fun A n cap xs w h => etake_any A n cap xs w h)
  unfold Ev.val at CT
  have HB := Lib.hid hb
  match xs, hs, hl with
  | [], hs, hl =>
    obtain rfl : n = 0 := by simpa using hl.symm
    have OE := Lib.hid (OwnE.nil w w.heap.size)
    go_enter Try.func74, Try.ntmps74
    go_wp2
    go_ret
    exact ⟨rfl, _, HB.out, by unfold Fr.takeE; rw [hf]; exact OE.out, World.grownBy.refl _ _⟩
  | c :: ys, hs, hl =>
    have hn : 0 < n := by rw [← hl]; simp
    have hc256 : c < 256 := hs.1.2.2.2.1 0
    obtain ⟨R, hR⟩ : ∃ R, evsT c [] ys = R := ⟨_, rfl⟩
    have HR := Lib.hid (show Fr.takeE f (c :: ys) = ({ f with es := R.1 }, R.2) by rw [← hR]; rfl)
    obtain ⟨ba, off, rfl, hba, hcell⟩ := hs.1.2.2.2.2 hn
    have h0 : w.cell? ⟨ba, off, none⟩ = some (.int .u8 (c : Nat)) := hcell 0 hn
    have SD := Lib.hid (show SlcB b w (if cap = 1 then some ⟨ba, off, none⟩ else some ((⟨ba, off, none⟩ : Addr).add 1)) (n - 1) (cap - 1) ys from hs.drop (u := 1) (by omega))
    have O0 := Lib.hid (OwnE.nil w w.heap.size)
    have HR2 := Lib.hid hR
    have hn0 : ((n : Int) == 0) = false := by simp; omega
    have hn1 : (1 : Int) ≤ n := by omega
    have hn1' : (0 : Int) < n := by omega
    clear hs hl hcell hb hba hR
    go_enter Try.func74, Try.ntmps74
    go_wp2
    go_region
    have hadd : (⟨ba, off, none⟩ : Addr).add 1 = ⟨ba, off + 1, none⟩ := by unfold Addr.add; split <;> simp_all
    rw [hadd] at SD
    clear hadd h0 hn0 hn1 hn1'
    generalize (if cap = 1 then some (⟨ba, off, none⟩ : Addr) else some ⟨ba, off + 1, none⟩) = A1 at *
    have H0 := Lib.hid (show EvsRel b c f w R (.slice A1 (n - 1) (cap - 1)) (.int .u8 0) w.drew from ⟨0, [], _, A1, n - 1, cap - 1, ys, by omega, rfl, rfl, rfl, SD, Lib.hid (by rw [← hf]; exact HB.out), O0, HR2, Lib.hid (by_drew (World.grownBy.refl _ _))⟩)
    clear SD HB O0 HR2
    go_wp2
    go_loopw [1, 18] (fun v1 v18 wr => EvsRel b c f w R v1 v18 wr) (fun _ v18 _ => c - (intOf v18).toNat)
    case atStart => exact H0.out
    case round =>
      obtain ⟨i, es, v, A2, n1, cap1, zs, hi, rfl, rfl, hes, KS, KB, KO, KR, KG⟩ := hrel
      clear H0
      have hl1 : zs.length = n1 := KS.out.1.1
      have hc1 : n1 ≤ cap1 := KS.out.1.2.1
      have hm1 : cap1 ≤ 9223372036854775807 := KS.out.1.2.2.1
      by_cases hlt2 : i < c
      · have hlt2' : (i : Int) < c := by omega
        have h1 := KR.out
        rw [show c - i = (c - (i + 1)) + 1 by omega, evsT] at h1
        have LE := Fl.takeF_le zs
        have CZ := Lib.hid (CT.out A2 n1 cap1 zs wr (KS.out.by_ KG.out).1)
        have SD := Lib.hid (KS.out.drop (u := (Fl.takeF zs).2.1) (by rw [← hl1]; exact LE))
        clear CT KR
        generalize Fl.takeF zs = T at *
        obtain ⟨e, u, z⟩ := T
        simp only at h1 LE
        have R1 := Lib.hid h1
        clear h1
        obtain ⟨A9, cap9, rfl, -⟩ := KO.out.sl
        rw [hes] at KB KO
        go_wp2_with fail
        refine CZ.out.mono ?_
        rintro x w1 ⟨rfl, hb1⟩
        clear CZ
        have U1 := Lib.hid (show Lex.Up wr (w1.alloc (.cells e.cells 51)) from up_blk hb1)
        have KE := Lib.hid (Blk.new w1 e.cells 51)
        have lt1 : b < w1.heap.size := (KB.out.up hb1).lt
        clear hb1
        go_upto_region 7 with (fail)
        refine wp_named (fun W9 hW9 => ?_)
        have hW9' : W9 = w1.alloc (.cells e.cells 51) := hW9
        rw [← hW9'] at U1 KE
        clear hW9 hW9'
        by_cases hz : z = 0
        · subst hz
          rw [if_pos rfl] at R1
          have lt9 : b < W9.heap.size := (KB.out.up U1.out).lt
          have GW := Lib.hid (KG.out.trans (up_by U1.out (some b)))
          have ZA : w.heap.size ≤ (W9.alloc (.cells e.cells 51)).drew.heap.size := by have := GW.out.size; simp; omega
          have OA := Lib.hid (show (W9.alloc (.cells e.cells 51)).drew.ownsRow w.heap.size 51 12 (.slice A9 i cap9) es.length (evc es) from own_up (KO.out.up U1.out) (show Lex.Up W9 (W9.alloc (.cells e.cells 51)).drew from Lex.Up.trans (up_blk (Lex.Up.refl W9)) (Lex.Up.drew _)))
          have SA := Lib.hid (show Sl (W9.alloc (.cells e.cells 51)).drew 12 (some ⟨W9.heap.size, 0, none⟩) 1 1 (evc [e]) from Sl.of_blk (by rw [evc_one]; exact Blk.new W9 e.cells 51) (by rw [evc_len]; rfl) (by decide))
          have BA := Lib.hid (show Blk (W9.alloc (.cells e.cells 51)).drew b (Fr.cells { f with es := es } (.slice A9 i cap9)) 26 from (KB.out.up U1.out).alloc _)
          have GA := Lib.hid (show w.grownBy (W9.alloc (.cells e.cells 51)).drew (some b) from by_drew (GW.out.trans (World.grownBy_alloc _ _ _)))
          have OB := Lib.hid KO.out.base
          obtain ⟨e0, e1, e2, e3, e4, e5, e6, e7, e8, e9, e10, e11⟩ := Blk.all W9 KE.out
          have c8 : W9.cell? ⟨b, 8, none⟩ = some (.slice A9 i cap9) := (KB.out.up U1.out).cell rfl
          clear KB KO KG U1 KE GW
          by_cases hcu : cap1 = u
          · subst hcu
            rw [if_pos rfl, show n1 - cap1 = 0 by omega, Nat.sub_self] at SD
            have hu' : (cap1 : Int) ≤ n1 := by omega
            have hu2 : cap1 ≤ n1 := by omega
            go_wp2
            go_region_law (first
              | (refine ES12.step_append (by rfl) (.tmp 32) (.tmp 34) rfl w.heap.size (.slice A9 i cap9) es.length (evc es) (by rfl) OA.out (some ⟨W9.heap.size, 0, none⟩) 1 1 (evc [e]) (by rfl) SA.out (evc_one' _) (by omega) (by simp only [maxLen]; omega) ZA ?_
                 intro v10 w10 hown10 hg10
                 have O10 : OwnE w10 w.heap.size v10 (es ++ [e]) := by unfold OwnE; rw [evc_append, List.length_append]; exact hown10
                 obtain ⟨A10, cap10, q10, -⟩ := O10.sl
                 rw [List.length_append, show [e].length = 1 from rfl, hes] at q10
                 subst q10
                 have B10 : Blk w10 b (Fr.cells { f with es := es } (.slice A9 i cap9)) 26 := BA.out.row hg10 OB.out hlt
                 have c8 : w10.cell? ⟨b, 8, none⟩ = some (.slice A9 i cap9) := B10.cell rfl
                 have g8 := B10.frozen 8
                 have HO10 := Lib.hid O10
                 have HB10 := Lib.hid B10
                 have HG10 := Lib.hid (by_row GA.out hg10 OB.out)
                 clear hown10 hg10 O10 B10))
            all_goals
              have SE := Lib.hid HO10
              clear SA OA BA GA SE
              have wn : IntKind.u8.wrap ((i : Int) + 1) = (i : Int) + 1 := by rw [IntKind.wrap_u8]; omega
              have HC10 := Lib.hid (HB10.out.set 8 (.slice A10 (i + 1) cap10))
              have HW10 := Lib.hid (HO10.out.by_ (by_set w10 ⟨b, 8, none⟩ (.slice A10 (i + 1) cap10)) hlt)
              have HX10 := Lib.hid (HG10.out.trans (by_set w10 ⟨b, 8, none⟩ (.slice A10 (i + 1) cap10)))
              clear HB10 HO10 HG10 c8 g8
              go_wp2
              go_roundw
              case rel => exact ⟨i + 1, es ++ [e], _, _, _, _, _, by omega, by go_num, rfl, by simp [hes], SD, HC10, HW10, Lib.hid (by rw [← R1.out]), HX10⟩
              case measure => simp [intOf]; omega
          · rw [if_neg hcu] at SD
            have hu' : (u : Int) ≤ n1 := by omega
            have hu2 : u ≤ n1 := by omega
            go_wp2
            go_region_law (first
              | (refine ES12.step_append (by rfl) (.tmp 32) (.tmp 34) rfl w.heap.size (.slice A9 i cap9) es.length (evc es) (by rfl) OA.out (some ⟨W9.heap.size, 0, none⟩) 1 1 (evc [e]) (by rfl) SA.out (evc_one' _) (by omega) (by simp only [maxLen]; omega) ZA ?_
                 intro v10 w10 hown10 hg10
                 have O10 : OwnE w10 w.heap.size v10 (es ++ [e]) := by unfold OwnE; rw [evc_append, List.length_append]; exact hown10
                 obtain ⟨A10, cap10, q10, -⟩ := O10.sl
                 rw [List.length_append, show [e].length = 1 from rfl, hes] at q10
                 subst q10
                 have B10 : Blk w10 b (Fr.cells { f with es := es } (.slice A9 i cap9)) 26 := BA.out.row hg10 OB.out hlt
                 have c8 : w10.cell? ⟨b, 8, none⟩ = some (.slice A9 i cap9) := B10.cell rfl
                 have g8 := B10.frozen 8
                 have HO10 := Lib.hid O10
                 have HB10 := Lib.hid B10
                 have HG10 := Lib.hid (by_row GA.out hg10 OB.out)
                 clear hown10 hg10 O10 B10))
            all_goals
              have SE := Lib.hid HO10
              clear SA OA BA GA SE
              have wn : IntKind.u8.wrap ((i : Int) + 1) = (i : Int) + 1 := by rw [IntKind.wrap_u8]; omega
              have HC10 := Lib.hid (HB10.out.set 8 (.slice A10 (i + 1) cap10))
              have HW10 := Lib.hid (HO10.out.by_ (by_set w10 ⟨b, 8, none⟩ (.slice A10 (i + 1) cap10)) hlt)
              have HX10 := Lib.hid (HG10.out.trans (by_set w10 ⟨b, 8, none⟩ (.slice A10 (i + 1) cap10)))
              clear HB10 HO10 HG10 c8 g8
              go_wp2
              go_roundw
              case rel => exact ⟨i + 1, es ++ [e], _, _, _, _, _, by omega, by go_num, rfl, by simp [hes], SD, HC10, HW10, Lib.hid (by rw [← R1.out]), HX10⟩
              case measure => simp [intOf]; omega
        · have z1 : ((z : Int) != 0) = true := by simp [bne]; omega
          rw [if_neg hz] at R1
          have hR := R1.out
          subst hR
          go_wp2
          go_ret
          rw [HR.out]
          refine ⟨rfl, .slice A9 i cap9, KB.out.up U1.out, KO.out.up U1.out, KG.out.trans (up_by U1.out (some b))⟩
      · obtain rfl : i = c := by omega
        have h1 := KR.out
        rw [Nat.sub_self, evsT] at h1
        subst h1
        have he : ((n1 : Int) == 0) = zs.isEmpty := by rw [← hl1]; cases zs <;> simp; omega
        go_wp2
        go_ret
        rw [HR.out]
        exact ⟨rfl, v, KB.out, KO.out, KG.out⟩
end Go.Proofs.Ythgfbnkggdlokaa

/-! The walks of frame.measured and frame.taken. -/
namespace Go.Proofs.Ythgfbnkggdlokaa
open Go.RowKit
set_option maxRecDepth 100000

namespace Fr
/-- What is behind the number at the beginning, if it has as many bytes as that number says. -/
def meas (xs : List Nat) : Option (List Nat) := if (Pl.take xs).2.2 = 0 ∧ (Pl.take xs).1 = xs.length - (Pl.take xs).2.1 then some (xs.drop (Pl.take xs).2.1) else none
def takeK (f : Fr) (xs : List Nat) : Fr × Bool := if f.k = 1 ∨ f.k = 4 then takeE f xs else if f.k = 2 then nums f [2] xs else if f.k = 3 ∨ f.k = 5 then nums f [3, 4, 5, 6, 7] xs else (f, false)
/-- The frame whose body has these bytes. -/
def taken : List Nat → Fr × Bool
  | k :: r :: ys => if (takeK ⟨k, r, 0, Ck.zero, []⟩ ys).2 then ((takeK ⟨k, r, 0, Ck.zero, []⟩ ys).1, true) else (zero, false)
  | _ => (zero, false)
theorem keep_es (f : Fr) (p : Nat) (x : Int) : (f.keep p x).es = f.es := by unfold keep; split <;> rfl
theorem nums_es (f : Fr) : ∀ ps xs, (nums f ps xs).1.es = f.es := fun ps => by
  induction ps generalizing f with
  | nil => intro xs; rfl
  | cons p ps ih =>
    intro xs
    rw [nums]
    split
    · rw [ih, keep_es]
    · rfl
end Fr
theorem TakeFr.of_ok {b : Nat} {T : Fr × Bool} {w : World} {x : Ending} {w' : World} (h : TakeOk b (.slice none 0 0) T w x w') (he : T.1.es = []) : TakeFr b T w x w' := by
  obtain ⟨h1, h2, h3⟩ := h
  exact ⟨h1, _, h2, by rw [he]; exact OwnE.nil _ _, h3⟩
/-- The function that takes the fields of a kind. -/
theorem take_kind {f : Fr} (hf : f.es = []) (hk : Pt.ok f.k = true) :
    ∃ p, Pt.take f.k = .func (.func p) #[] #[] ∧ (∀ args w', (callFunc p args).run Try.prog w' = .ok (.enter p args) w') ∧
      ∀ b w A n cap xs, SlcB b w A n cap xs → Blk w b (f.cells (.slice none 0 0)) 26 → Calls Try.prog p #[.pointer (some ⟨b, 0, none⟩), .slice A n cap] w (TakeFr b (f.takeK xs) w) := by
  have ee := enters (P := Try.prog) Try.func74 (by kernel_rfl) rfl
  have eu := enters (P := Try.prog) Try.func77 (by kernel_rfl) rfl
  have ec := enters (P := Try.prog) Try.func71 (by kernel_rfl) rfl
  have hk' : f.k = 1 ∨ f.k = 2 ∨ f.k = 3 ∨ f.k = 4 ∨ f.k = 5 := by simpa [Pt.ok] using hk
  have E : f.k = 1 ∨ f.k = 4 → ∀ b w A n cap xs, SlcB b w A n cap xs → Blk w b (f.cells (.slice none 0 0)) 26 → Calls Try.prog 74 #[.pointer (some ⟨b, 0, none⟩), .slice A n cap] w (TakeFr b (f.takeK xs) w) := fun h b w A n cap xs hs hb => by
    rw [Fr.takeK, if_pos h]; exact takeEvents_any b f hf A n cap xs w hs hb
  have C : f.k = 3 ∨ f.k = 5 → ∀ b w A n cap xs, SlcB b w A n cap xs → Blk w b (f.cells (.slice none 0 0)) 26 → Calls Try.prog 71 #[.pointer (some ⟨b, 0, none⟩), .slice A n cap] w (TakeFr b (f.takeK xs) w) := fun h b w A n cap xs hs hb => by
    rw [Fr.takeK, if_neg (by omega), if_neg (by omega), if_pos h]
    exact (takeClock_any b f _ A n cap xs w hs hb).mono fun x w' hx => TakeFr.of_ok hx (by rw [Fr.nums_es, hf])
  rcases hk' with k | k | k | k | k
  · exact ⟨_, by rw [k]; rfl, ee, E (.inl k)⟩
  · refine ⟨_, by rw [k]; rfl, eu, fun b w A n cap xs hs hb => ?_⟩
    rw [Fr.takeK, if_neg (by omega), if_pos k]
    exact (takeUpto_any b f _ A n cap xs w hs hb).mono fun x w' hx => TakeFr.of_ok hx (by rw [Fr.nums_es, hf])
  · exact ⟨_, by rw [k]; rfl, ec, C (.inl k)⟩
  · exact ⟨_, by rw [k]; rfl, ee, E (.inr k)⟩
  · exact ⟨_, by rw [k]; rfl, ec, C (.inr k)⟩
theorem Slc.dropA {w : World} {A : Option Addr} {n cap : Nat} {xs : List Nat} (h : Slc w A n cap xs) {u : Nat} (hu : u ≤ n) : Slc w (if cap = u then A else A.map fun x => x.add u) (n - u) (cap - u) (xs.drop u) := by
  have : SlcB w.heap.size w A n cap xs := ⟨h, fun h0 x hx => by obtain ⟨b', off, rfl, hbl, -⟩ := h.2.2.2.2 h0; simp at hx; subst hx; exact Nat.ne_of_lt hbl⟩
  exact (this.drop hu).1

/-- What is measured: a part of the same bytes. -/
def MeasPost (w : World) (xs : List Nat) (x : Ending) (w' : World) : Prop :=
  w' = w ∧ (Fr.meas xs = none ∧ x = .returned (.tuple #[.slice none 0 0, .bool false]) ∨ ∃ A n cap ys, Fr.meas xs = some ys ∧ x = .returned (.tuple #[.slice A n cap, .bool true]) ∧ Slc w A n cap ys)
set_option maxHeartbeats 800000 in
theorem measured_any (A : Option Addr) (n cap : Nat) (xs : List Nat) (w : World) (h : Slc w A n cap xs) : Calls Try.prog 46 #[.slice A n cap] w (MeasPost w xs) := by
  have C := Lib.hid (take_any A n cap xs w h)
  have hl := h.1
  have hc := h.2.1
  have hm := h.2.2.1
  have LE := take_le xs
  have SD := Lib.hid (h.dropA (u := (Pl.take xs).2.1) (by rw [← hl]; exact LE))
  have M := Lib.hid (show Fr.meas xs = if (Pl.take xs).2.2 = 0 ∧ (Pl.take xs).1 = xs.length - (Pl.take xs).2.1 then some (xs.drop (Pl.take xs).2.1) else none from rfl)
  rw [hl] at M
  unfold MeasPost
  generalize Fr.meas xs = R at *
  generalize Pl.take xs = T at *
  obtain ⟨v, u, z⟩ := T
  simp only at LE M
  clear h
  go_enter Try.func46, Try.ntmps46
  go_wp2_with fail
  refine C.out.mono ?_
  rintro x w1 ⟨rfl, rfl⟩
  clear C
  by_cases hz : z = 0
  rotate_left
  · have z1 : ((z : Int) != 0) = true := by simp [bne]; omega
    rw [if_neg (by simp [hz])] at M
    go_wp2
    go_ret2
    exact ⟨rfl, .inl ⟨M.out, rfl⟩⟩
  subst hz
  obtain ⟨m, hm1⟩ : ∃ m, m = n - u := ⟨_, rfl⟩
  have w1' : IntKind.i64.wrap ((n : Int) - u) = (m : Int) := by rw [IntWalk.i64_in _ ⟨by omega, by omega⟩]; omega
  have w2' : IntKind.u64.wrap (m : Int) = (m : Int) := by rw [IntKind.wrap_u64]; omega
  rw [← hm1] at M SD
  by_cases hv : v = m
  rotate_left
  · have v1 : ((v : Int) != (m : Int)) = true := by simp [bne]; omega
    rw [if_neg (by simp [hv])] at M
    go_wp2
    go_ret2
    exact ⟨rfl, .inl ⟨M.out, rfl⟩⟩
  have v1 : ((v : Int) != (m : Int)) = false := by simp [bne]; omega
  rw [if_pos ⟨rfl, hv⟩] at M
  have ME := M
  clear M hv
  by_cases hcu : cap = u
  · subst hcu
    rw [if_pos rfl, hm1, show n - cap = 0 by omega, Nat.sub_self] at SD
    have hu' : (cap : Int) ≤ n := by omega
    have hu2 : cap ≤ n := by omega
    go_wp2
    go_ret2
    exact ⟨rfl, .inr ⟨_, _, _, _, ME.out, rfl, SD.out⟩⟩
  · rw [if_neg hcu] at SD
    rw [hm1] at SD
    have hu' : (u : Int) ≤ n := by omega
    have hu2 : u ≤ n := by omega
    go_wp2
    go_ret2
    exact ⟨rfl, .inr ⟨_, _, _, _, ME.out, rfl, SD.out⟩⟩

/-- The call returns this frame, with its events in a new row. -/
def RetTk (w : World) (g : Fr) (r : Value) (x : Ending) (w' : World) : Prop :=
  ∃ (A : Option Addr) (cap : Nat), x = .returned (.tuple #[g.val (.slice A g.es.length cap), r]) ∧ OwnE w' w.heap.size (.slice A g.es.length cap) g.es ∧ Below w.heap.size w w'
set_option maxHeartbeats 4000000 in
theorem taken_any (A : Option Addr) (n cap : Nat) (xs : List Nat) (w : World) (h : Slc w A n cap xs) :
    Calls Try.prog 47 #[.slice A n cap] w (RetTk w (Fr.taken xs).1 (.bool (Fr.taken xs).2)) := by
  obtain ⟨R, hR⟩ : ∃ R, Fr.taken xs = R := ⟨_, rfl⟩
  rw [hR]
  have CP := Lib.hid (fun w => parts_any w)
  have K1 := Lib.hid (Blk.new w (Fr.zero.cells (.slice none 0 0)) 26)
  have U0 := Lib.hid (show Lex.Up w (w.alloc (.cells (Fr.zero.cells (.slice none 0 0)) 26)) from up_blk (Lex.Up.refl w))
  obtain ⟨W, hW⟩ : ∃ W, W = w.alloc (.cells (Fr.zero.cells (.slice none 0 0)) 26) := ⟨_, rfl⟩
  rw [← hW] at K1 U0
  have hl := h.1
  have hc := h.2.1
  have hm := h.2.2.1
  have HS := Lib.hid h
  clear h
  go_enter Try.func47, Try.ntmps47
  go_upto_region 1 with (fail)
  refine wp_named (fun W2 hW2 => ?_)
  obtain rfl : W2 = W := by rw [hW2, hW]; rfl
  clear hW hW2
  by_cases h2 : n < 2
  · have hd : decide ((n : Int) < 2) = true := by simp; omega
    have hT : Fr.taken xs = (Fr.zero, false) := by
      match xs, hl with
      | [], _ => rfl
      | [_], _ => rfl
      | _ :: _ :: _, hl => simp at hl; omega
    obtain rfl : R = (Fr.zero, false) := by rw [← hR, hT]
    clear hT hR
    have OZ0 := Lib.hid (show OwnE W2 (w.heap.size + 1) (.slice none Fr.zero.es.length 0) Fr.zero.es from OwnE.nil W2 (w.heap.size + 1))
    obtain ⟨j0, j1, j2, j3, j4, j5, j6, j7, j8⟩ := (K1.out).fr
    have f := (K1.out).frozen
    have f0 := f 0; have f1 := f 1; have f2 := f 2; have f3 := f 3; have f4 := f 4; have f5 := f 5; have f6 := f 6; have f7 := f 7; have f8 := f 8
    clear f
    go_wp2
    change bodyPost _ _ _ _ _ (put9 W2 w.heap.size Fr.zero (.slice none (Fr.zero).es.length 0))
    have K := put9_blk (K1.out) Fr.zero (.slice none (Fr.zero).es.length 0)
    have BB := put9_below (U0.out) (Nat.le_refl w.heap.size) Fr.zero (.slice none (Fr.zero).es.length 0)
    have SZ := ((OZ0.out).by_ (put9_by W2 w.heap.size Fr.zero (.slice none (Fr.zero).es.length 0)) (Nat.lt_succ_self _)).mono (Nat.le_succ _)
    generalize put9 W2 w.heap.size Fr.zero (.slice none (Fr.zero).es.length 0) = W5 at *
    obtain ⟨k0', k1', k2', k3', k4', k5', k6', k7', k8'⟩ := K.fr
    exact bodyPost_ret (v := .tuple #[Fr.val Fr.zero (.slice none (Fr.zero).es.length 0), .bool false]) (by simp [results, Try.results47, go_sem, Fr.val, k0', k1', k2', k3', k4', k5', k6', k7', k8']) rfl ⟨none, 0, rfl, SZ, BB⟩
  have hd : decide ((n : Int) < 2) = false := by simp; omega
  match xs, hl, hR, HS with
  | [], hl, _, _ => simp at hl; omega
  | [_], hl, _, _ => simp at hl; omega
  | k :: r :: ys, hl, hR, HS =>
  obtain ⟨ba, off, rfl, hba, hcell⟩ := HS.out.2.2.2.2 (by omega)
  have h0 : W2.cell? ⟨ba, off, none⟩ = some (.int .u8 (k : Nat)) := (U0.out.cell (p := ⟨ba, off, none⟩) hba).trans (hcell 0 (by omega))
  have h1 : W2.cell? ⟨ba, off + 1, none⟩ = some (.int .u8 (r : Nat)) := (U0.out.cell (p := ⟨ba, off + 1, none⟩) hba).trans (hcell 1 (by omega))
  have hk : k < 256 := HS.out.2.2.2.1 0
  have hr : r < 256 := HS.out.2.2.2.1 1
  have n0 : (0 : Int) < n := by omega
  have n1 : (1 : Int) < n := by omega
  have n2 : (2 : Int) ≤ n := by omega
  have hadd : (⟨ba, off, none⟩ : Addr).add 2 = ⟨ba, off + 2, none⟩ := by unfold Addr.add; split <;> simp_all
  have SD := Lib.hid (show Slc w (if cap = 2 then some ⟨ba, off, none⟩ else some ⟨ba, off + 2, none⟩) (n - 2) (cap - 2) ys from by have := HS.out.dropA (u := 2) (by omega); rwa [Option.map_some, hadd] at this)
  have hbW : ba < W2.heap.size := Nat.lt_of_lt_of_le hba U0.out.size
  have wk : IntKind.i64.wrap (k : Int) = k := IntWalk.i64_in _ ⟨by omega, by omega⟩
  have wr' : IntKind.i64.wrap (r : Int) = r := IntWalk.i64_in _ ⟨by omega, by omega⟩
  clear hcell hba hadd
  go_upto_region 3 with (fail)
  go_region
  have K4 := Lib.hid (Blk.new W2 (Fr.cells ⟨k, r, 0, Ck.zero, []⟩ (.slice none 0 0)) 26)
  have K2 := Lib.hid (K1.out.alloc (.cells (Fr.cells ⟨k, r, 0, Ck.zero, []⟩ (.slice none 0 0)) 26))
  have U2 := Lib.hid (up_blk (cs := Fr.cells ⟨k, r, 0, Ck.zero, []⟩ (.slice none 0 0)) (t := 26) U0.out)
  have Z4 : w.heap.size < W2.heap.size := K1.out.lt
  go_upto_region 4 with (fail)
  refine wp_named (fun W hW => ?_)
  have hW' : W = (W2.alloc (.cells (Fr.cells ⟨k, r, 0, Ck.zero, []⟩ (.slice none 0 0)) 26)).drew := hW
  have K4 := Lib.hid (show Blk W W2.heap.size (Fr.cells ⟨k, r, 0, Ck.zero, []⟩ (.slice none 0 0)) 26 by rw [hW']; exact K4.out)
  have K2 := Lib.hid (show Blk W w.heap.size (Fr.zero.cells (.slice none 0 0)) 26 by rw [hW']; exact K2.out)
  have U2 := Lib.hid (show Lex.Up w W by rw [hW']; exact Lex.Up.trans U2.out (Lex.Up.drew _))
  clear hW hW' K1 U0 h0 h1 hbW wk wr' n0 n1
  obtain ⟨b4, hb4⟩ : ∃ b4, b4 = W2.heap.size := ⟨_, rfl⟩
  rw [← hb4] at K4 Z4 ⊢
  have hWs : b4 < W.heap.size := K4.out.lt
  clear hb4
  have a0 : W.cell? ⟨b4, 0, none⟩ = some (.int .i64 (k : Nat)) := K4.out.cell rfl
  go_cut [5, 6] (fun v5 v6 wx => PartRel k W v5 v6 wx)
  case first =>
    go_region_law (first
      | (refine step_callx (by rfl) (CP.out _) (by go_simp) ?_
         rintro x w2 ⟨b, rfl, hm, hu⟩
         refine ⟨_, rfl, ?_⟩
         have UB : Lex.Up W w2 := (Lex.Up.drew W).trans hu
         have b0 : w2.cell? ⟨b4, 0, none⟩ = some (.int .i64 (k : Nat)) := (K4.out.up UB).cell rfl
         have lt2 : b4 < w2.heap.size := (K4.out.up UB).lt
         have LK := Pt.look hm k true
         have LK2 := Pt.look (hm.alloc (.cells #[.nilFunc, .nilFunc, .nilFunc] 63)) k true
         have RE := Lib.hid (fun (_ : Unit) => PartRel.new w2 k UB)
         clear hu hm UB)
      | (refine step_callx (by rfl) (CP.out _) (by go_simp) ?_
         rintro x w2 ⟨b, rfl, hm, hu⟩
         refine ⟨_, rfl, ?_⟩
         have UB : Lex.Up W w2 := (up_blk (Lex.Up.drew W)).trans hu
         have b0 : w2.cell? ⟨b4, 0, none⟩ = some (.int .i64 (k : Nat)) := (K4.out.up UB).cell rfl
         have lt2 : b4 < w2.heap.size := (K4.out.up UB).lt
         have LK := Pt.look hm k true
         have KN : Blk w2 W.heap.size #[.nilFunc, .nilFunc, .nilFunc] 63 := (Blk.new W.drew #[.nilFunc, .nilFunc, .nilFunc] 63).up hu
         have n0 := KN.cell (j := 0) rfl; have n1 := KN.cell (j := 1) rfl; have n2 := KN.cell (j := 2) rfl
         have f0 := KN.frozen 0; have f1 := KN.frozen 1; have f2 := KN.frozen 2
         have RE := Lib.hid (fun (_ : Unit) => PartRel.old k UB KN (Nat.le_refl _))
         clear hu hm UB KN))
    all_goals (go_wp2_with fail; go_meet; exact RE.out ())
  case rest =>
  obtain ⟨rfl, b, rfl, KP, UC⟩ := hcut
  clear a0 CP
  have L4 := Lib.hid (K4.out.up UC.out)
  have L2 := Lib.hid (K2.out.up UC.out)
  have UL := Lib.hid (U2.out.trans UC.out)
  have SW := Lib.hid (show SlcB b4 wc (if cap = 2 then some ⟨ba, off, none⟩ else some ⟨ba, off + 2, none⟩) (n - 2) (cap - 2) ys from ⟨SD.out.below UL.out, fun h0 x hx => by
    obtain ⟨b', off', e, hbl, -⟩ := SD.out.2.2.2.2 h0
    rw [e] at hx
    simp at hx
    rw [← hx]
    simp only
    omega⟩)
  clear K4 K2 U2 UC SD
  have TT := Lib.hid (show Fr.taken (k :: r :: ys) = if (Fr.takeK ⟨k, r, 0, Ck.zero, []⟩ ys).2 then ((Fr.takeK ⟨k, r, 0, Ck.zero, []⟩ ys).1, true) else (Fr.zero, false) from rfl)
  rw [hR] at TT
  have HN := Lib.hid (show Pt.ok k = false → (Fr.takeK ⟨k, r, 0, Ck.zero, []⟩ ys).2 = false from fun h => by
    simp only [Pt.ok, decide_eq_false_iff_not, not_or] at h
    simp [Fr.takeK, h])
  have TK := Lib.hid (fun h => take_kind (f := ⟨k, r, 0, Ck.zero, []⟩) rfl h)
  have p0 := KP.out.cell (j := 2) rfl
  generalize hok : Pt.ok (k : Int) = o at *
  cases o
  · rw [if_neg (by rw [HN.out rfl]; simp)] at TT
    have hT := TT.out
    subst hT
    clear KP L4 TT HN TK p0 SW hWs hR
    go_wp2
    refine Lex.wp_region_lex (by kernel_rfl) (by kernel_rfl) (by rfl) ?_
    repeat (first | (refine Lex.lex_skip (by rfl) (by rfl) (by rfl) ?_; simp only [Act.put, List.setIfInBounds_toArray, List.set_cons_zero, List.set_cons_succ]) | (refine Lex.lex_pure (c := ?_) (by rfl) (by rfl) (fun w' hC => ?_) (by rfl) ?_; rotate_left 1; (go_simp; rfl); simp only [Act.put, List.setIfInBounds_toArray, List.set_cons_zero, List.set_cons_succ]))
    refine Lex.lex_nil (fun w5 hC => ?_)
    simp only [Lex.fill]
    have M2 := Lib.hid (L2.out.up hC)
    have UM := Lib.hid (UL.out.trans hC)
    clear hC L2 UL
    have OZ0 := Lib.hid (show OwnE w5 (w.heap.size + 1) (.slice none Fr.zero.es.length 0) Fr.zero.es from OwnE.nil w5 (w.heap.size + 1))
    obtain ⟨j0, j1, j2, j3, j4, j5, j6, j7, j8⟩ := (M2.out).fr
    have f := (M2.out).frozen
    have f0 := f 0; have f1 := f 1; have f2 := f 2; have f3 := f 3; have f4 := f 4; have f5 := f 5; have f6 := f 6; have f7 := f 7; have f8 := f 8
    clear f
    go_wp2
    change bodyPost _ _ _ _ _ (put9 w5 w.heap.size Fr.zero (.slice none (Fr.zero).es.length 0))
    have K := put9_blk (M2.out) Fr.zero (.slice none (Fr.zero).es.length 0)
    have BB := put9_below (UM.out) (Nat.le_refl w.heap.size) Fr.zero (.slice none (Fr.zero).es.length 0)
    have SZ := ((OZ0.out).by_ (put9_by w5 w.heap.size Fr.zero (.slice none (Fr.zero).es.length 0)) (Nat.lt_succ_self _)).mono (Nat.le_succ _)
    generalize put9 w5 w.heap.size Fr.zero (.slice none (Fr.zero).es.length 0) = W5 at *
    obtain ⟨k0', k1', k2', k3', k4', k5', k6', k7', k8'⟩ := K.fr
    exact bodyPost_ret (v := .tuple #[Fr.val Fr.zero (.slice none (Fr.zero).es.length 0), .bool false]) (by simp [results, Try.results47, go_sem, Fr.val, k0', k1', k2', k3', k4', k5', k6', k7', k8']) rfl ⟨none, 0, rfl, SZ, BB⟩
  · obtain ⟨p, hp, ep, hcp⟩ := TK.out rfl
    rw [hp] at p0
    have CG := Lib.hid (hcp b4 wc.drew _ _ _ ys (SW.out.by_ (by_drew (World.grownBy.refl _ _))) L4.out)
    have ltb : b4 < wc.heap.size := L4.out.lt
    clear TK HN KP L4 SW hp hcp hWs
    go_wp2
    go_region_law (first
      | (refine step_callx (by rfl) CG.out (by go_simp) ?_
         rintro x w5 ⟨rfl, v5, hb5, ho5, hg5⟩
         refine ⟨_, rfl, ?_⟩
         have HB5 := Lib.hid hb5
         have HO5 := Lib.hid ho5
         have L5 := Lib.hid (show Blk w5 w.heap.size (Fr.zero.cells (.slice none 0 0)) 26 from Blk.by_ (show Blk wc.drew w.heap.size _ _ from L2.out) hg5 (by simp; omega))
         have U5 := Lib.hid (show Lex.Up w w5 from Below.grown (show Below w.heap.size w wc.drew from (show Below w.heap.size w wc from UL.out).drew) hg5 (show w.heap.size ≤ wc.drew.heap.size from UL.out.size) (fun k hk => by simp at hk; omega))
         clear hb5 ho5 hg5 CG L2 UL))
    generalize (if cap = 2 then some (⟨ba, off, none⟩ : Addr) else some ⟨ba, off + 2, none⟩) = A3
    have O5 := Lib.hid (HO5.out.mono (B' := w.heap.size + 1) (show w.heap.size + 1 ≤ wc.drew.heap.size from Nat.lt_of_lt_of_le Z4 (Nat.le_of_lt ltb)))
    clear HO5
    generalize Fr.takeK ⟨k, r, 0, Ck.zero, []⟩ ys = T at *
    obtain ⟨g, ok⟩ := T
    simp only at HB5 O5 TT
    obtain ⟨A5, cap5, rfl, -⟩ := O5.out.sl
    cases ok
    · rw [if_neg (by simp)] at TT
      have hT := TT.out
      subst hT
      clear TT hR HB5 O5
      have OZ0 := Lib.hid (show OwnE w5 (w.heap.size + 1) (.slice none Fr.zero.es.length 0) Fr.zero.es from OwnE.nil w5 (w.heap.size + 1))
      obtain ⟨j0, j1, j2, j3, j4, j5, j6, j7, j8⟩ := (L5.out).fr
      have f := (L5.out).frozen
      have f0 := f 0; have f1 := f 1; have f2 := f 2; have f3 := f 3; have f4 := f 4; have f5 := f 5; have f6 := f 6; have f7 := f 7; have f8 := f 8
      clear f
      go_wp2
      change bodyPost _ _ _ _ _ (put9 w5 w.heap.size Fr.zero (.slice none (Fr.zero).es.length 0))
      have K := put9_blk (L5.out) Fr.zero (.slice none (Fr.zero).es.length 0)
      have BB := put9_below (U5.out) (Nat.le_refl w.heap.size) Fr.zero (.slice none (Fr.zero).es.length 0)
      have SZ := ((OZ0.out).by_ (put9_by w5 w.heap.size Fr.zero (.slice none (Fr.zero).es.length 0)) (Nat.lt_succ_self _)).mono (Nat.le_succ _)
      generalize put9 w5 w.heap.size Fr.zero (.slice none (Fr.zero).es.length 0) = W5 at *
      obtain ⟨k0', k1', k2', k3', k4', k5', k6', k7', k8'⟩ := K.fr
      exact bodyPost_ret (v := .tuple #[Fr.val Fr.zero (.slice none (Fr.zero).es.length 0), .bool false]) (by simp [results, Try.results47, go_sem, Fr.val, k0', k1', k2', k3', k4', k5', k6', k7', k8']) rfl ⟨none, 0, rfl, SZ, BB⟩
    · rw [if_pos rfl] at TT
      have hT := TT.out
      subst hT
      clear TT hR
      obtain ⟨c0, c1, c2, c3, c4, c5, c6, c7, c8⟩ := HB5.out.fr
      obtain ⟨j0, j1, j2, j3, j4, j5, j6, j7, j8⟩ := (L5.out).fr
      have f := (L5.out).frozen
      have f0 := f 0; have f1 := f 1; have f2 := f 2; have f3 := f 3; have f4 := f 4; have f5 := f 5; have f6 := f 6; have f7 := f 7; have f8 := f 8
      clear f
      go_wp2
      change bodyPost _ _ _ _ _ (put9 w5 w.heap.size g (.slice A5 (g).es.length cap5))
      have K := put9_blk (L5.out) g (.slice A5 (g).es.length cap5)
      have BB := put9_below (U5.out) (Nat.le_refl w.heap.size) g (.slice A5 (g).es.length cap5)
      have SZ := ((O5.out).by_ (put9_by w5 w.heap.size g (.slice A5 (g).es.length cap5)) (Nat.lt_succ_self _)).mono (Nat.le_succ _)
      generalize put9 w5 w.heap.size g (.slice A5 (g).es.length cap5) = W5 at *
      obtain ⟨k0', k1', k2', k3', k4', k5', k6', k7', k8'⟩ := K.fr
      exact bodyPost_ret (v := .tuple #[Fr.val g (.slice A5 (g).es.length cap5), .bool true]) (by simp [results, Try.results47, go_sem, Fr.val, k0', k1', k2', k3', k4', k5', k6', k7', k8']) rfl ⟨A5, cap5, rfl, SZ, BB⟩
end Go.Proofs.Ythgfbnkggdlokaa

/-! The walk of frame.Take. -/
namespace Go.Proofs.Ythgfbnkggdlokaa
open Go.RowKit
set_option maxRecDepth 100000

/-- What is taken from bytes: the frame, and what is wrong. -/
def Fr.takeF (xs : List Nat) : Fr × Nat :=
  if 2048 < xs.length then (zero, 5) else if Cr.opens xs = false then (zero, 4) else
    match meas (xs.take (xs.length - 4)) with
    | none => (zero, 3)
    | some ys => if (taken ys).2 = true ∧ may (taken ys).1 = true then ((taken ys).1, 0) else (zero, 3)
theorem Slc.bts {w : World} {A : Option Addr} {n cap : Nat} {xs : List Nat} (h : Slc w A n cap xs) : Bts xs := Pl.lt_of_nth h.2.2.2.1

set_option maxHeartbeats 4000000 in
theorem frtake_any (A : Option Addr) (n cap : Nat) (xs : List Nat) (w : World) (h : Slc w A n cap xs) :
    Calls Try.prog 16 #[.slice A n cap] w (RetTk w (Fr.takeF xs).1 (.int .i64 (Fr.takeF xs).2)) := by
  obtain ⟨R, hR⟩ : ∃ R, Fr.takeF xs = R := ⟨_, rfl⟩
  rw [hR]
  have CO := Lib.hid (fun w h hn => open_any A n cap xs w h hn)
  have CM := Lib.hid (fun A n cap xs w h => measured_any A n cap xs w h)
  have CT := Lib.hid (fun A n cap xs w h => taken_any A n cap xs w h)
  have CY := Lib.hid (fun f A n cap w h => frmay_any f A n cap w h)
  unfold Fr.val at CY
  have K1 := Lib.hid (Blk.new w (Fr.zero.cells (.slice none 0 0)) 26)
  have U0 := Lib.hid (show Lex.Up w (w.alloc (.cells (Fr.zero.cells (.slice none 0 0)) 26)) from up_blk (Lex.Up.refl w))
  obtain ⟨W, hW⟩ : ∃ W, W = w.alloc (.cells (Fr.zero.cells (.slice none 0 0)) 26) := ⟨_, rfl⟩
  rw [← hW] at K1 U0
  have hl := h.1
  have hc := h.2.1
  have hm := h.2.2.1
  have HT := Lib.hid (show R = if 2048 < xs.length then (Fr.zero, 5) else if Cr.opens xs = false then (Fr.zero, 4) else
    match Fr.meas (xs.take (xs.length - 4)) with
    | none => (Fr.zero, 3)
    | some ys => if (Fr.taken ys).2 = true ∧ Fr.may (Fr.taken ys).1 = true then ((Fr.taken ys).1, 0) else (Fr.zero, 3) from hR ▸ rfl)
  have BX := Lib.hid h.bts
  have HS := Lib.hid (h.below U0.out)
  clear h hR
  go_enter Try.func16, Try.ntmps16
  go_upto_region 1 with (fail)
  refine wp_named (fun W2 hW2 => ?_)
  obtain rfl : W2 = W := by rw [hW2, hW]; rfl
  clear hW hW2
  rw [hl] at HT
  by_cases hbig : 2048 < n
  · have hd : decide (2048 < (n : Int)) = true := by simp; omega
    rw [if_pos hbig] at HT
    have hT := HT.out
    subst hT
    clear HT CO CM CT CY HS
    have OZ0 := Lib.hid (show OwnE W2 (w.heap.size + 1) (.slice none Fr.zero.es.length 0) Fr.zero.es from OwnE.nil W2 (w.heap.size + 1))
    obtain ⟨j0, j1, j2, j3, j4, j5, j6, j7, j8⟩ := (K1.out).fr
    have f := (K1.out).frozen
    have f0 := f 0; have f1 := f 1; have f2 := f 2; have f3 := f 3; have f4 := f 4; have f5 := f 5; have f6 := f 6; have f7 := f 7; have f8 := f 8
    clear f
    go_wp2
    change bodyPost _ _ _ _ _ (put9 W2 w.heap.size Fr.zero (.slice none (Fr.zero).es.length 0))
    have K := put9_blk (K1.out) Fr.zero (.slice none (Fr.zero).es.length 0)
    have BB := put9_below (U0.out) (Nat.le_refl w.heap.size) Fr.zero (.slice none (Fr.zero).es.length 0)
    have SZ := ((OZ0.out).by_ (put9_by W2 w.heap.size Fr.zero (.slice none (Fr.zero).es.length 0)) (Nat.lt_succ_self _)).mono (Nat.le_succ _)
    generalize put9 W2 w.heap.size Fr.zero (.slice none (Fr.zero).es.length 0) = W5 at *
    obtain ⟨k0', k1', k2', k3', k4', k5', k6', k7', k8'⟩ := K.fr
    exact bodyPost_ret (v := .tuple #[Fr.val Fr.zero (.slice none (Fr.zero).es.length 0), .int .i64 5]) (by simp [results, Try.results16, go_sem, Fr.val, k0', k1', k2', k3', k4', k5', k6', k7', k8']) rfl ⟨none, 0, rfl, SZ, BB⟩
  have hd : decide (2048 < (n : Int)) = false := by simp; omega
  rw [if_neg hbig] at HT
  go_wp2_with fail
  refine (CO.out _ HS.out (by omega)).mono ?_
  rintro x w1 ⟨hb1, ⟨ho, v1, rfl, hown1⟩ | ⟨ho, rfl⟩⟩
  rotate_left
  · rw [if_pos ho] at HT
    have hT := HT.out
    subst hT
    have L1 := Lib.hid (K1.out.up hb1)
    have U1 := Lib.hid (U0.out.trans hb1)
    clear HT CM CT CY HS CO hb1 K1 U0
    have OZ0 := Lib.hid (show OwnE w1 (w.heap.size + 1) (.slice none Fr.zero.es.length 0) Fr.zero.es from OwnE.nil w1 (w.heap.size + 1))
    obtain ⟨j0, j1, j2, j3, j4, j5, j6, j7, j8⟩ := (L1.out).fr
    have f := (L1.out).frozen
    have f0 := f 0; have f1 := f 1; have f2 := f 2; have f3 := f 3; have f4 := f 4; have f5 := f 5; have f6 := f 6; have f7 := f 7; have f8 := f 8
    clear f
    go_wp2
    change bodyPost _ _ _ _ _ (put9 w1 w.heap.size Fr.zero (.slice none (Fr.zero).es.length 0))
    have K := put9_blk (L1.out) Fr.zero (.slice none (Fr.zero).es.length 0)
    have BB := put9_below (U1.out) (Nat.le_refl w.heap.size) Fr.zero (.slice none (Fr.zero).es.length 0)
    have SZ := ((OZ0.out).by_ (put9_by w1 w.heap.size Fr.zero (.slice none (Fr.zero).es.length 0)) (Nat.lt_succ_self _)).mono (Nat.le_succ _)
    generalize put9 w1 w.heap.size Fr.zero (.slice none (Fr.zero).es.length 0) = W5 at *
    obtain ⟨k0', k1', k2', k3', k4', k5', k6', k7', k8'⟩ := K.fr
    exact bodyPost_ret (v := .tuple #[Fr.val Fr.zero (.slice none (Fr.zero).es.length 0), .int .i64 4]) (by simp [results, Try.results16, go_sem, Fr.val, k0', k1', k2', k3', k4', k5', k6', k7', k8']) rfl ⟨none, 0, rfl, SZ, BB⟩
  rw [if_neg (by rw [ho]; simp)] at HT
  rw [hl] at hown1
  obtain ⟨A1, cap1, rfl, hs1⟩ := slc_of_own2 hown1 (fun x hx => BX.out x (List.mem_of_mem_take hx))
  have L1 := Lib.hid (K1.out.up hb1)
  have U1 := Lib.hid (U0.out.trans hb1)
  have S1 := Lib.hid hs1
  clear hown1 hs1 hb1 ho CO HS K1 U0 BX
  generalize xs.take (n - 4) = ys at *
  go_wp2_with fail
  refine (CM.out A1 (n - 4) cap1 ys _ S1.out).mono ?_
  rintro x w2 ⟨rfl, ⟨ho, rfl⟩ | ⟨A2, n2, cap2, zs, ho, rfl, hs2⟩⟩
  · rw [ho] at HT
    have hT := HT.out
    simp only at hT
    subst hT
    clear HT CT CY CM S1
    have OZ0 := Lib.hid (show OwnE w2 (w.heap.size + 1) (.slice none Fr.zero.es.length 0) Fr.zero.es from OwnE.nil w2 (w.heap.size + 1))
    obtain ⟨j0, j1, j2, j3, j4, j5, j6, j7, j8⟩ := (L1.out).fr
    have f := (L1.out).frozen
    have f0 := f 0; have f1 := f 1; have f2 := f 2; have f3 := f 3; have f4 := f 4; have f5 := f 5; have f6 := f 6; have f7 := f 7; have f8 := f 8
    clear f
    go_wp2
    change bodyPost _ _ _ _ _ (put9 w2 w.heap.size Fr.zero (.slice none (Fr.zero).es.length 0))
    have K := put9_blk (L1.out) Fr.zero (.slice none (Fr.zero).es.length 0)
    have BB := put9_below (U1.out) (Nat.le_refl w.heap.size) Fr.zero (.slice none (Fr.zero).es.length 0)
    have SZ := ((OZ0.out).by_ (put9_by w2 w.heap.size Fr.zero (.slice none (Fr.zero).es.length 0)) (Nat.lt_succ_self _)).mono (Nat.le_succ _)
    generalize put9 w2 w.heap.size Fr.zero (.slice none (Fr.zero).es.length 0) = W5 at *
    obtain ⟨k0', k1', k2', k3', k4', k5', k6', k7', k8'⟩ := K.fr
    exact bodyPost_ret (v := .tuple #[Fr.val Fr.zero (.slice none (Fr.zero).es.length 0), .int .i64 3]) (by simp [results, Try.results16, go_sem, Fr.val, k0', k1', k2', k3', k4', k5', k6', k7', k8']) rfl ⟨none, 0, rfl, SZ, BB⟩
  rw [ho] at HT
  simp only at HT
  clear ho CM S1
  go_wp2_with fail
  refine (CT.out A2 n2 cap2 zs _ hs2).mono ?_
  rintro x w3 ⟨A3, cap3, rfl, hs3, hb3⟩
  clear CT hs2
  generalize Fr.taken zs = T at *
  obtain ⟨g, ok⟩ := T
  simp only at HT hs3
  have Z2 : w.heap.size + 1 ≤ w2.heap.size := L1.out.lt
  have L3 := Lib.hid ((L1.out.up hb3).alloc (.cells (g.cells (.slice A3 g.es.length cap3)) 26))
  have KG := Lib.hid (Blk.new w3 (g.cells (.slice A3 g.es.length cap3)) 26)
  have U3 := Lib.hid (up_blk (cs := g.cells (.slice A3 g.es.length cap3)) (t := 26) (U1.out.trans hb3))
  have S4 := Lib.hid (OwnE.up hs3 (up_blk (cs := g.cells (.slice A3 g.es.length cap3)) (t := 26) (Lex.Up.refl w3)))
  clear hs3 hb3 L1 U1
  simp only
  unfold Fr.val
  go_upto_region 10 with (fail)
  refine wp_named (fun W4 hW4 => ?_)
  have hW' : W4 = w3.alloc (.cells (g.cells (.slice A3 g.es.length cap3)) 26) := hW4
  rw [← hW'] at L3 KG U3 S4
  clear hW4 hW'
  cases ok
  · rw [if_neg (by simp)] at HT
    have hT := HT.out
    subst hT
    clear HT CY KG S4
    have OZ0 := Lib.hid (show OwnE W4 (w.heap.size + 1) (.slice none Fr.zero.es.length 0) Fr.zero.es from OwnE.nil W4 (w.heap.size + 1))
    obtain ⟨j0, j1, j2, j3, j4, j5, j6, j7, j8⟩ := (L3.out).fr
    have f := (L3.out).frozen
    have f0 := f 0; have f1 := f 1; have f2 := f 2; have f3 := f 3; have f4 := f 4; have f5 := f 5; have f6 := f 6; have f7 := f 7; have f8 := f 8
    clear f
    go_wp2
    change bodyPost _ _ _ _ _ (put9 W4 w.heap.size Fr.zero (.slice none (Fr.zero).es.length 0))
    have K := put9_blk (L3.out) Fr.zero (.slice none (Fr.zero).es.length 0)
    have BB := put9_below (U3.out) (Nat.le_refl w.heap.size) Fr.zero (.slice none (Fr.zero).es.length 0)
    have SZ := ((OZ0.out).by_ (put9_by W4 w.heap.size Fr.zero (.slice none (Fr.zero).es.length 0)) (Nat.lt_succ_self _)).mono (Nat.le_succ _)
    generalize put9 W4 w.heap.size Fr.zero (.slice none (Fr.zero).es.length 0) = W5 at *
    obtain ⟨k0', k1', k2', k3', k4', k5', k6', k7', k8'⟩ := K.fr
    exact bodyPost_ret (v := .tuple #[Fr.val Fr.zero (.slice none (Fr.zero).es.length 0), .int .i64 3]) (by simp [results, Try.results16, go_sem, Fr.val, k0', k1', k2', k3', k4', k5', k6', k7', k8']) rfl ⟨none, 0, rfl, SZ, BB⟩
  obtain ⟨c0, c1, c2, c3, c4, c5, c6, c7, c8⟩ := KG.out.fr
  go_wp2_with fail
  clear c0 c1 c2 c3 c4 c5 c6 c7 c8
  refine (CY.out g A3 _ cap3 _ S4.out.sl_of.2).mono ?_
  rintro x w5 ⟨rfl, hb5⟩
  have L5 := Lib.hid (L3.out.up hb5)
  have KG5 := Lib.hid (KG.out.up hb5)
  have U5 := Lib.hid (U3.out.trans hb5)
  have S5 := Lib.hid ((S4.out.up hb5).mono Z2)
  clear L3 KG U3 S4 CY hb5
  generalize Fr.may g = m at *
  cases m
  · rw [if_neg (by simp)] at HT
    have hT := HT.out
    subst hT
    clear HT KG5 S5
    have OZ0 := Lib.hid (show OwnE w5 (w.heap.size + 1) (.slice none Fr.zero.es.length 0) Fr.zero.es from OwnE.nil w5 (w.heap.size + 1))
    obtain ⟨j0, j1, j2, j3, j4, j5, j6, j7, j8⟩ := (L5.out).fr
    have f := (L5.out).frozen
    have f0 := f 0; have f1 := f 1; have f2 := f 2; have f3 := f 3; have f4 := f 4; have f5 := f 5; have f6 := f 6; have f7 := f 7; have f8 := f 8
    clear f
    go_wp2
    change bodyPost _ _ _ _ _ (put9 w5 w.heap.size Fr.zero (.slice none (Fr.zero).es.length 0))
    have K := put9_blk (L5.out) Fr.zero (.slice none (Fr.zero).es.length 0)
    have BB := put9_below (U5.out) (Nat.le_refl w.heap.size) Fr.zero (.slice none (Fr.zero).es.length 0)
    have SZ := ((OZ0.out).by_ (put9_by w5 w.heap.size Fr.zero (.slice none (Fr.zero).es.length 0)) (Nat.lt_succ_self _)).mono (Nat.le_succ _)
    generalize put9 w5 w.heap.size Fr.zero (.slice none (Fr.zero).es.length 0) = W5 at *
    obtain ⟨k0', k1', k2', k3', k4', k5', k6', k7', k8'⟩ := K.fr
    exact bodyPost_ret (v := .tuple #[Fr.val Fr.zero (.slice none (Fr.zero).es.length 0), .int .i64 3]) (by simp [results, Try.results16, go_sem, Fr.val, k0', k1', k2', k3', k4', k5', k6', k7', k8']) rfl ⟨none, 0, rfl, SZ, BB⟩
  · rw [if_pos (by simp)] at HT
    have hT := HT.out
    subst hT
    clear HT
    obtain ⟨c0, c1, c2, c3, c4, c5, c6, c7, c8⟩ := KG5.out.fr
    obtain ⟨j0, j1, j2, j3, j4, j5, j6, j7, j8⟩ := (L5.out).fr
    have f := (L5.out).frozen
    have f0 := f 0; have f1 := f 1; have f2 := f 2; have f3 := f 3; have f4 := f 4; have f5 := f 5; have f6 := f 6; have f7 := f 7; have f8 := f 8
    clear f
    go_wp2
    change bodyPost _ _ _ _ _ (put9 w5 w.heap.size g (.slice A3 (g).es.length cap3))
    have K := put9_blk (L5.out) g (.slice A3 (g).es.length cap3)
    have BB := put9_below (U5.out) (Nat.le_refl w.heap.size) g (.slice A3 (g).es.length cap3)
    have SZ := ((S5.out).by_ (put9_by w5 w.heap.size g (.slice A3 (g).es.length cap3)) (Nat.lt_succ_self _)).mono (Nat.le_succ _)
    generalize put9 w5 w.heap.size g (.slice A3 (g).es.length cap3) = W5 at *
    obtain ⟨k0', k1', k2', k3', k4', k5', k6', k7', k8'⟩ := K.fr
    exact bodyPost_ret (v := .tuple #[Fr.val g (.slice A3 (g).es.length cap3), .int .i64 0]) (by simp [results, Try.results16, go_sem, Fr.val, k0', k1', k2', k3', k4', k5', k6', k7', k8']) rfl ⟨A3, cap3, rfl, SZ, BB⟩
end Go.Proofs.Ythgfbnkggdlokaa

/-! The codec of frames, plain: what was put is taken, and what is taken was put. -/
namespace Go.Proofs.Ythgfbnkggdlokaa
open Go.RowKit
set_option maxRecDepth 100000

theorem take_back {xs : List Nat} (hx : Bts xs) (h : (Pl.take xs).2.2 = 0) : (Pl.take xs).1 < 18446744073709551616 ∧ xs = Pl.put (Pl.take xs).1 ++ xs.drop (Pl.take xs).2.1 ∧ (Pl.take xs).2.1 = (Pl.put (Pl.take xs).1).length := by
  rcases Pl.take_ways hx.nth with ⟨m, hm, hv, ht, hp⟩ | ht | ht
  · have hle := Pl.vlen_le xs
    rw [ht]
    refine ⟨hm, ?_, ?_⟩
    · simp only
      rw [hp, List.take_append_drop]
    · simp only
      rw [hp, List.length_take]; omega
  · rw [ht] at h; simp at h
  · rw [ht] at h; simp at h
theorem wrap_nat {n : Nat} (h : n < 18446744073709551616) {x : Int} (hx : IntKind.i64.wrap (n : Int) = x) (h0 : 0 ≤ x) : (n : Int) = x := by
  rw [← hx] at h0 ⊢
  by_cases h1 : n < 9223372036854775808
  · rw [IntWalk.i64_in _ ⟨by omega, by omega⟩]
  · exfalso
    have e : IntKind.i64.wrap (n : Int) = (n : Int) - 18446744073709551616 := by
      rw [IntWalk.i64_left]
      unfold wrap64
      omega
    rw [e] at h0
    omega
theorem wrap_small {x : Int} (h0 : 0 ≤ x) (h1 : x ≤ 1048576) : IntKind.i64.wrap ((x.toNat : Nat) : Int) = x := by
  rw [Int.toNat_of_nonneg h0, IntWalk.i64_in _ ⟨by omega, by omega⟩]
namespace Fr
theorem meas_put {b : List Nat} (h : b.length < 18446744073709551616) : meas (Pl.put b.length ++ b) = some b := by
  unfold meas
  rw [Pl.take_put h b]
  simp
theorem meas_back {xs ys : List Nat} (hx : Bts xs) (h : meas xs = some ys) : xs = Pl.put ys.length ++ ys := by
  unfold meas at h
  split at h
  · rename_i h1
    obtain ⟨hv, he, hu⟩ := take_back hx h1.1
    have hl : ys = xs.drop (Pl.take xs).2.1 := by injection h with h; exact h.symm
    have hy : ys.length = (Pl.take xs).1 := by rw [hl, List.length_drop, h1.2]
    rw [hy, hl]
    exact he
  · cases h
theorem nums_put (f : Fr) (p : Nat) (ps : List Nat) {n : Nat} (hn : n < 18446744073709551616) (rest : List Nat) : nums f (p :: ps) (Pl.put n ++ rest) = nums (f.keep p (IntKind.i64.wrap n)) ps rest := by
  rw [nums, Pl.take_put hn rest, if_pos rfl]
  simp
theorem nums_back {f g : Fr} {p : Nat} {ps xs : List Nat} (hx : Bts xs) (h : nums f (p :: ps) xs = (g, true)) :
    ∃ n rest, n < 18446744073709551616 ∧ xs = Pl.put n ++ rest ∧ Bts rest ∧ nums (f.keep p (IntKind.i64.wrap n)) ps rest = (g, true) := by
  rw [nums] at h
  split at h
  · rename_i h1
    obtain ⟨hv, he, hu⟩ := take_back hx h1
    exact ⟨_, _, hv, he, hx.drop _, h⟩
  · injection h with _ h; cases h
theorem nums_end {f g : Fr} {xs : List Nat} (h : nums f [] xs = (g, true)) : g = f ∧ xs = [] := by
  rw [nums] at h
  injection h with h1 h2
  exact ⟨h1.symm, List.isEmpty_iff.1 h2⟩
theorem evsT_put : ∀ (es acc : List Ev), (∀ e ∈ es, Ev.Good e) → evsT es.length acc (evs es) = (acc ++ es, true)
  | [], acc, _ => by simp [evsT, evs]
  | e :: es, acc, h => by
    rw [List.length_cons, evsT, evs, Fl.take_bytes (h e (by simp)), if_pos rfl]
    simp only
    rw [List.drop_left, evsT_put es _ (fun x hx => h x (by simp [hx])), List.append_assoc]
    rfl
theorem evsT_back : ∀ (m : Nat) (acc es : List Ev) (xs : List Nat), Bts xs → evsT m acc xs = (es, true) → ∃ l, es = acc ++ l ∧ l.length = m ∧ xs = evs l ∧ ∀ e ∈ l, Ev.Good e
  | 0, acc, es, xs, _, h => by
    rw [evsT] at h
    injection h with h1 h2
    exact ⟨[], by simp [h1], rfl, List.isEmpty_iff.1 h2, fun e he => by cases he⟩
  | m + 1, acc, es, xs, hx, h => by
    rw [evsT] at h
    split at h
    · rename_i h1
      obtain ⟨g, hle, hlen, htk⟩ := Fl.take_of hx h1
      obtain ⟨l, e1, e2, e3, e4⟩ := evsT_back m _ es _ (hx.drop _) h
      refine ⟨(Fl.takeF xs).1 :: l, by rw [e1]; simp, by simp [e2], ?_, fun e he => ?_⟩
      · rw [evs, ← htk, ← e3, List.take_append_drop]
      · rcases List.mem_cons.1 he with rfl | he
        · exact g
        · exact e4 e he
    · injection h with _ h; cases h
theorem good_k {f : Fr} (g : Good f) : ((f.k.toNat : Nat) : Int) = f.k := by rcases g.k with k | k | k | k | k <;> omega
theorem good_r {f : Fr} (g : Good f) : ((f.r.toNat : Nat) : Int) = f.r := by have := g.r0; omega
theorem takeK_pay {f : Fr} (g : Good f) : takeK ⟨f.k, f.r, 0, Ck.zero, []⟩ (pay f) = (f, true) := by
  obtain ⟨k, r, u, c, es⟩ := f
  rcases g.k with h | h | h | h | h <;> simp only at h <;> subst h
  · obtain ⟨e1, e2, e3, e4⟩ := g.ev (.inl rfl)
    simp only at e1 e2 e3 e4
    subst e1 e2
    rw [takeK, if_pos (.inl rfl), pay, if_neg (by simp), if_neg (by simp), takeE]
    simp only
    rw [evsT_put es [] e4]
    rfl
  · obtain ⟨e1, e2, e3, e4⟩ := g.up rfl
    simp only at e1 e2 e3 e4
    subst e3 e4
    have e0 : pay ⟨2, r, u, Ck.zero, []⟩ = Pl.put u.toNat ++ [] := by rw [pay, if_pos rfl, List.append_nil]
    rw [takeK, if_neg (by simp), if_pos rfl, e0, nums_put _ _ _ (by omega), wrap_small e1 e2]
    rfl
  · obtain ⟨e1, e2, e3⟩ := g.ck (.inl rfl)
    simp only at e1 e2 e3
    subst e1 e3
    have b0 := e2 0 (by omega); have b1 := e2 1 (by omega); have b2 := e2 2 (by omega); have b3 := e2 3 (by omega); have b4 := e2 4 (by omega)
    obtain ⟨c0, c1, c2, c3, c4⟩ := c
    simp only [Ck.get] at b0 b1 b2 b3 b4
    have e0 : pay ⟨3, r, 0, ⟨c0, c1, c2, c3, c4⟩, []⟩ = Pl.put c0.toNat ++ (Pl.put c1.toNat ++ (Pl.put c2.toNat ++ (Pl.put c3.toNat ++ (Pl.put c4.toNat ++ [])))) := by
      rw [pay, if_neg (by simp), if_pos (by simp)]
      simp [cks, Ck.get]
    rw [takeK, if_neg (by simp), if_neg (by simp), if_pos (by simp), e0, nums_put _ _ _ (by omega), nums_put _ _ _ (by omega), nums_put _ _ _ (by omega), nums_put _ _ _ (by omega), nums_put _ _ _ (by omega),
      wrap_small b0.1 b0.2, wrap_small b1.1 b1.2, wrap_small b2.1 b2.2, wrap_small b3.1 b3.2, wrap_small b4.1 b4.2]
    rfl
  · obtain ⟨e1, e2, e3, e4⟩ := g.ev (.inr rfl)
    simp only at e1 e2 e3 e4
    subst e1 e2
    rw [takeK, if_pos (.inr rfl), pay, if_neg (by simp), if_neg (by simp), takeE]
    simp only
    rw [evsT_put es [] e4]
    rfl
  · obtain ⟨e1, e2, e3⟩ := g.ck (.inr rfl)
    simp only at e1 e2 e3
    subst e1 e3
    have b0 := e2 0 (by omega); have b1 := e2 1 (by omega); have b2 := e2 2 (by omega); have b3 := e2 3 (by omega); have b4 := e2 4 (by omega)
    obtain ⟨c0, c1, c2, c3, c4⟩ := c
    simp only [Ck.get] at b0 b1 b2 b3 b4
    have e0 : pay ⟨5, r, 0, ⟨c0, c1, c2, c3, c4⟩, []⟩ = Pl.put c0.toNat ++ (Pl.put c1.toNat ++ (Pl.put c2.toNat ++ (Pl.put c3.toNat ++ (Pl.put c4.toNat ++ [])))) := by
      rw [pay, if_neg (by simp), if_pos (by simp)]
      simp [cks, Ck.get]
    rw [takeK, if_neg (by simp), if_neg (by simp), if_pos (by simp), e0, nums_put _ _ _ (by omega), nums_put _ _ _ (by omega), nums_put _ _ _ (by omega), nums_put _ _ _ (by omega), nums_put _ _ _ (by omega),
      wrap_small b0.1 b0.2, wrap_small b1.1 b1.2, wrap_small b2.1 b2.2, wrap_small b3.1 b3.2, wrap_small b4.1 b4.2]
    rfl
theorem taken_body {f : Fr} (g : Good f) : taken (body f) = (f, true) := by
  have h := takeK_pay g
  rw [body, taken, good_k g, good_r g, h]
  rfl
theorem ck_of (c : Ck) : c = ⟨c.c0, c.c1, c.c2, c.c3, c.c4⟩ := rfl
theorem takeK_back {f0 g : Fr} {xs : List Nat} (hx : Bts xs) (h : takeK f0 xs = (g, true)) (hm : may g = true) : g.k = f0.k ∧ g.r = f0.r ∧ pay g = xs := by
  have G := (may_iff g).1 hm
  unfold takeK at h
  split at h
  · rename_i hk
    match xs, hx, h with
    | [], _, h => rw [takeE] at h; injection h with _ h; cases h
    | c :: ys, hx, h =>
      rw [takeE] at h
      injection h with h1 h2
      obtain ⟨l, e1, e2, e3, e4⟩ := evsT_back c [] (evsT c [] ys).1 ys (fun y hy => hx y (by simp [hy])) (by rw [← h2])
      subst h1
      refine ⟨rfl, rfl, ?_⟩
      rw [pay, if_neg (by simp only; omega), if_neg (by simp only; omega)]
      simp only
      rw [e1, List.nil_append, e2, ← e3]
  · rename_i hk
    split at h
    · rename_i h2
      obtain ⟨n, rest, hn, e1, hr, h⟩ := nums_back hx h
      obtain ⟨e2, e3⟩ := nums_end h
      subst e2 e3
      have hgk : (f0.keep 2 (IntKind.i64.wrap n)).k = 2 := h2
      have hu := G.up hgk
      have e4 : (f0.keep 2 (IntKind.i64.wrap n)).u = IntKind.i64.wrap n := rfl
      rw [e4] at hu
      have := wrap_nat hn rfl hu.1
      refine ⟨rfl, rfl, ?_⟩
      rw [pay, if_pos hgk, e4, ← this, e1, List.append_nil]
      simp
    · rename_i h2
      split at h
      · rename_i h3
        obtain ⟨n0, r0, hn0, e0, hr0, h⟩ := nums_back hx h
        obtain ⟨n1, r1, hn1, e1, hr1, h⟩ := nums_back hr0 h
        obtain ⟨n2, r2, hn2, e2, hr2, h⟩ := nums_back hr1 h
        obtain ⟨n3, r3, hn3, e3, hr3, h⟩ := nums_back hr2 h
        obtain ⟨n4, r4, hn4, e4, hr4, h⟩ := nums_back hr3 h
        obtain ⟨e5, e6⟩ := nums_end h
        have eg : g = ⟨f0.k, f0.r, f0.u, ⟨IntKind.i64.wrap n0, IntKind.i64.wrap n1, IntKind.i64.wrap n2, IntKind.i64.wrap n3, IntKind.i64.wrap n4⟩, f0.es⟩ := by rw [e5]; rfl
        have hck := (G.ck (by rw [eg]; exact h3)).2.1
        have c0 := hck 0 (by omega); have c1 := hck 1 (by omega); have c2 := hck 2 (by omega); have c3 := hck 3 (by omega); have c4 := hck 4 (by omega)
        rw [eg] at c0 c1 c2 c3 c4
        have d0 := wrap_nat hn0 rfl c0.1; have d1 := wrap_nat hn1 rfl c1.1; have d2 := wrap_nat hn2 rfl c2.1; have d3 := wrap_nat hn3 rfl c3.1; have d4 := wrap_nat hn4 rfl c4.1
        rw [eg]
        refine ⟨rfl, rfl, ?_⟩
        rw [pay, if_neg (by simp only; omega), if_pos (by simp only; exact h3)]
        simp only [cks, Ck.get]
        rw [← d0, ← d1, ← d2, ← d3, ← d4, e0, e1, e2, e3, e4, e6]
        simp
      · injection h with _ h; cases h
theorem taken_back {g : Fr} {xs : List Nat} (hx : Bts xs) (h : taken xs = (g, true)) (hm : may g = true) : body g = xs := by
  match xs, hx, h with
  | [], _, h => rw [taken] at h; injection h with _ h; cases h; all_goals simp
  | [_], _, h => rw [taken] at h; injection h with _ h; cases h; all_goals simp
  | k :: r :: ys, hx, h =>
    rw [taken] at h
    split at h
    · rename_i h1
      injection h with h2 _
      obtain ⟨e1, e2, e3⟩ := takeK_back (f0 := ⟨k, r, 0, Ck.zero, []⟩) (xs := ys) (fun y hy => hx y (by simp [hy])) (g := g) (by rw [← h2, ← h1]) hm
      rw [body, e1, e2, e3]
      simp
    · injection h with _ h; cases h
theorem body_len {f : Fr} (g : Good f) : 3 ≤ (body f).length ∧ (body f).length ≤ 883 := by
  have h1 := pay_len g
  have h2 := pay_pos f
  unfold body
  simp only [List.length_cons]
  omega
theorem raw_len {f : Fr} (g : Good f) : 4 ≤ (raw f).length ∧ (raw f).length ≤ 894 := by
  have h1 := body_len g
  have h2 := Pl.put_len (body f).length
  have h3 := Pl.put_pos (body f).length
  unfold raw
  rw [List.length_append]
  omega
theorem raw_lt {f : Fr} (g : Good f) : Bts (raw f) := fun x hx => by
  have h1 := body_len g
  unfold raw at hx
  rcases List.mem_append.1 hx with h | h
  · exact Pl.put_lt (by omega) x h
  · exact body_lt g x h
theorem bytes_len {f : Fr} (g : Good f) : 8 ≤ (bytes f).length ∧ (bytes f).length ≤ 898 := by
  have h1 := raw_len g
  unfold bytes
  rw [Cr.sealed_len]
  omega
theorem bytes_lt {f : Fr} (g : Good f) : Bts (bytes f) := Cr.sealed_lt (raw_lt g)
theorem takeF_sealed {xs : List Nat} (h : xs.length ≤ 2044) : takeF (Cr.sealed xs) = match meas xs with
    | none => (zero, 3)
    | some ys => if (taken ys).2 = true ∧ may (taken ys).1 = true then ((taken ys).1, 0) else (zero, 3) := by
  unfold takeF
  rw [Cr.sealed_len, if_neg (by omega), if_neg (by rw [Cr.opens_sealed]; simp)]
  have := Cr.sealed_take xs
  rw [Cr.sealed_len] at this
  rw [this] <;> (cases meas xs <;> rfl)
/-- What was put is taken. -/
theorem take_put {f : Fr} (g : Good f) : takeF (bytes f) = (f, 0) := by
  have h1 := raw_len g
  have h2 := body_len g
  rw [bytes, takeF_sealed (by omega), raw, meas_put (by omega)]
  simp only
  rw [taken_body g]
  simp only
  rw [if_pos ⟨trivial, (may_iff f).2 g⟩]
/-- What is taken was put. -/
theorem take_of {xs : List Nat} (hx : Bts xs) (h : (takeF xs).2 = 0) : Good (takeF xs).1 ∧ bytes (takeF xs).1 = xs := by
  unfold takeF at h ⊢
  split at h
  · simp at h
  · rename_i h1
    rw [if_neg h1]
    split at h
    · simp at h
    · rename_i h2
      rw [if_neg h2]
      have ho : Cr.opens xs = true := by simpa using h2
      rw [Cr.opens_seal, decide_eq_true_eq] at ho
      have hb : Bts (xs.take (xs.length - 4)) := fun x hx' => hx x (List.mem_of_mem_take hx')
      cases hm : meas (xs.take (xs.length - 4)) with
      | none => rw [hm] at h; simp at h
      | some ys =>
        rw [hm] at h
        simp only at h ⊢
        split at h
        · rename_i h3
          rw [if_pos h3]
          simp only
          have hr := meas_back hb hm
          have hy : Bts ys := fun y hy => hb y (by rw [hr]; exact List.mem_append_right _ hy)
          have hbo := taken_back (g := (taken ys).1) hy (by rw [← h3.1]) h3.2
          refine ⟨(may_iff _).1 h3.2, ?_⟩
          rw [bytes, raw, hbo, ← hr]
          exact ho.2
        · simp at h
theorem take_errs (xs : List Nat) : (takeF xs).2 = 0 ∨ ∃ e, takeF xs = (zero, e) ∧ (e = 3 ∨ e = 4 ∨ e = 5 ∧ 2048 < xs.length) := by
  unfold takeF
  split
  · rename_i h
    exact .inr ⟨5, rfl, by simp [h]⟩
  · split
    · exact .inr ⟨4, rfl, by simp⟩
    · cases meas (xs.take (xs.length - 4)) with
      | none => exact .inr ⟨3, rfl, by simp⟩
      | some ys =>
        simp only
        split
        · exact .inl rfl
        · exact .inr ⟨3, rfl, by simp⟩
theorem take_shut {xs : List Nat} (hl : xs.length ≤ 2048) (h : Cr.opens xs = false) : takeF xs = (zero, 4) := by
  unfold takeF
  rw [if_neg (by omega), if_pos h]
theorem take_four {xs : List Nat} (h : xs.length < 4) : takeF xs = (zero, 4) :=
  take_shut (by omega) (by unfold Cr.opens; rw [decide_eq_false (by omega)]; rfl)
/-- With bytes that the number at the beginning doesn't tell it is none. -/
theorem meas_odd {n : Nat} (hn : n < 18446744073709551616) {b : List Nat} (h : b.length ≠ n) : meas (Pl.put n ++ b) = none := by
  unfold meas
  rw [Pl.take_put hn b, if_neg]
  simp only [List.length_append, Nat.add_sub_cancel_left]
  exact fun h2 => h h2.2.symm
theorem take_more {f : Fr} (g : Good f) : takeF (Cr.sealed (raw f ++ [0])) = (zero, 3) := by
  have h1 := raw_len g
  have h2 := body_len g
  rw [takeF_sealed (by simp; omega), raw, List.append_assoc, meas_odd (by omega) (by simp)]
theorem take_less {f : Fr} (g : Good f) : takeF (Cr.sealed ((raw f).take ((raw f).length - 1))) = (zero, 3) := by
  have h1 := raw_len g
  have h2 := body_len g
  have e : (raw f).take ((raw f).length - 1) = Pl.put (body f).length ++ (body f).take ((body f).length - 1) := by
    unfold raw
    rw [List.take_append, List.length_append, List.take_of_length_le (by omega)]
    congr 2
    omega
  rw [takeF_sealed (by rw [List.length_take]; omega), e, meas_odd (by omega) (by rw [List.length_take]; omega)]
theorem bytes_apart {x y : Fr} (gx : Good x) (gy : Good y) : bytes x = bytes y ↔ x = y := by
  constructor
  · intro h
    have h1 := take_put gx
    rw [h, take_put gy] at h1
    injection h1 with h1 _
    exact h1.symm
  · rintro rfl; rfl
theorem out_good {f : Fr} (g : Good f) : out f = bytes f := by unfold out; rw [if_pos ((may_iff f).2 g)]
theorem out_bad {f : Fr} (h : may f = false) : out f = [] := by unfold out; rw [h, if_neg (by simp)]
end Fr
end Go.Proofs.Ythgfbnkggdlokaa
