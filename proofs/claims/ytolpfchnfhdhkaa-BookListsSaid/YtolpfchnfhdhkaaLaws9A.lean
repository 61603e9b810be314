/-
  The head of the statements of layer 9.
-/
import Derived.Test.YtolpfchnfhdhkaaOfe
namespace Go.Proofs.Ytolpfchnfhdhkaa
open Go.RowKit
set_option maxRecDepth 100000
set_option maxRecDepth 100000

namespace Bk
def cy : ByteArray := ⟨#[99, 121]⟩
def e1 : Ev := ⟨0, 1, Ck.zero, 1, 1, cy, 0, ⟨#[]⟩⟩
def e2 : Ev := ⟨1, 1, ⟨1, 0, 0, 0, 0⟩, 2, 3, cy, 0, ⟨#[49]⟩⟩
def e3 : Ev := ⟨0, 2, ⟨1, 0, 0, 0, 0⟩, 2, 2, cy, 0, ⟨#[]⟩⟩
def e4 : Ev := ⟨0, 3, ⟨2, 0, 0, 0, 0⟩, 3, 1, cy, 0, ⟨#[]⟩⟩
def one4 : List Ev := [e1, e2, e3, e4]
def one2 : List Ev := [e1, e2]
theorem sortS_one (x : ByteArray) : sortS [x] = [x] := by simp [sortS, toStr_oct]
theorem set_nil : set [] = [] := by
  unfold set vals compS sortS
  simp [Lib.compact, Lib.compactUpTo]
theorem book4 : book one4 = [⟨cy, false, false, ⟨#[]⟩, ⟨#[]⟩, [], []⟩] := by
  have hk : keys one4 = [cy] := by
    unfold keys
    rw [show nub ((one4.filter (cnt one4)).map (·.key)) = [cy] from by decide +kernel, sortS_one]
  have f0 : fl one4 one4 cy 0 = [] := by decide +kernel
  have f1 : fl one4 one4 cy 1 = [] := by decide +kernel
  have a0 : al one4 one4 cy 0 = [] := by decide +kernel
  have a1 : al one4 one4 cy 1 = [] := by decide +kernel
  unfold book
  rw [hk]
  show [ct one4 cy] = _
  unfold ct
  rw [f0, f1, a0, a1, set_nil]
  rfl
theorem book2 : book one2 = [⟨cy, true, false, ⟨#[49]⟩, ⟨#[]⟩, [], []⟩] := by
  have hk : keys one2 = [cy] := by
    unfold keys
    rw [show nub ((one2.filter (cnt one2)).map (·.key)) = [cy] from by decide +kernel, sortS_one]
  have f0 : fl one2 one2 cy 0 = [e2] := by decide +kernel
  have f1 : fl one2 one2 cy 1 = [] := by decide +kernel
  have a0 : al one2 one2 cy 0 = [] := by decide +kernel
  have a1 : al one2 one2 cy 1 = [] := by decide +kernel
  unfold book
  rw [hk]
  show [ct one2 cy] = _
  unfold ct
  rw [f0, f1, a0, a1, set_nil, show has [e2] = true from by decide +kernel, show field [e2] = ⟨#[49]⟩ from by decide +kernel]
  rfl
end Bk
set_option maxHeartbeats 1600000 in
theorem one_any (w : World) : Calls Try.prog 63 #[] w fun x w' => x = .returned (.slice (some ⟨w.heap.size, 0, none⟩) 4 4) ∧ EvSl w' (some ⟨w.heap.size, 0, none⟩) 4 4 Bk.one4 ∧ Lex.Up w w' := by
  have E1 := Lib.hid (show EvSl (w.alloc (.cells (evc Bk.one4).toArray 39)) (some ⟨w.heap.size, 0, none⟩) 4 4 Bk.one4 from Sl.of_blk (t := 39) (Blk.new w (evc Bk.one4).toArray _) rfl (by decide))
  have U0 := Lib.hid (show Lex.Up w (w.alloc (.cells (evc Bk.one4).toArray 39)) from (Below.refl _ _).alloc (Nat.le_refl _) _)
  go_enter Try.func63, Try.ntmps63
  go_wp2
  go_ret
  exact ⟨rfl, E1.out, U0.out⟩

set_option maxHeartbeats 3200000 in
theorem shown_any (w : World) : Calls Try.prog 30 #[] w fun x w' => x = .returned (.bool true) ∧ Lex.Up w w' := by
  have C1 := Lib.hid (fun w => one_any w)
  have C2 := Lib.hid (fun w b (h : EvSl w (some ⟨b, 0, none⟩) 4 4 Bk.one4) => book_any Bk.one4 _ 4 4 w h (by decide) (by decide))
  have C3 := Lib.hid (fun w b (h : EvSl w (some ⟨b, 0, none⟩) 2 4 Bk.one2) => book_any Bk.one2 _ 2 4 w h (by decide) (by decide))
  rw [Bk.book4] at C2
  rw [Bk.book2] at C3
  go_enter Try.func30, Try.ntmps30
  go_wp2_with fail
  refine (C1.out _).mono ?_
  rintro x w1 ⟨rfl, h1, u1⟩
  have H1 := Lib.hid h1
  have U1 := Lib.hid u1
  clear h1 u1
  go_wp2_with fail
  refine (C2.out _ _ H1.out).mono ?_
  rintro x w2 ⟨⟨A2, c2, rfl, h2⟩, u2⟩
  have H2 := Lib.hid h2
  have U2 := Lib.hid (show Lex.Up w w2 from Below.trans U1.out (u2.mono U1.out.size))
  clear h2 u2 H1 U1 C2
  go_wp2_with fail
  refine (C1.out _).mono ?_
  rintro x w3 ⟨rfl, h3, u3⟩
  have H3 := Lib.hid (h3.take (u := 2) (by omega))
  have H2' := Lib.hid (H2.out.up u3)
  have U3 := Lib.hid (show Lex.Up w w3 from Below.trans U2.out (u3.mono U2.out.size))
  clear h3 u3 H2 U2 C1
  go_wp2_with fail
  refine (C3.out _ _ H3.out).mono ?_
  rintro x w4 ⟨⟨A4, c4, rfl, h4⟩, u4⟩
  have U4 := Lib.hid (show Lex.Up w w4 from Below.trans U3.out (u4.mono U3.out.size))
  obtain ⟨b, off, A0, p0, A1, p1, rfl, k0, k1, k2, k3, k4, k5, k6, -, -⟩ := ct_at (H2'.out.up u4) (i := 0) (by simp)
  obtain ⟨b', off', A0', p0', A1', p1', rfl, j0, j1, j2, j3, j4, j5, j6, -, -⟩ := ct_at h4 (i := 0) (by simp)
  simp only [Ct.nth, List.getD_cons_zero, Nat.zero_mul, Nat.add_zero] at k0 k1 k2 k3 k4 k5 k6 j0 j1 j2 j3 j4 j5 j6
  unfold Bk.cy at k0 j0
  clear h4 u4 H2' H3 U3 C3
  go_wp2
  go_ret
  exact ⟨rfl, U4.out⟩
end Go.Proofs.Ytolpfchnfhdhkaa
