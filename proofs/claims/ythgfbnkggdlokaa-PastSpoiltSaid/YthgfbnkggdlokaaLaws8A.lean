/-
  The head of the statements of layer 8; short.
-/
import Derived.Test.YthgfbnkggdlokaaPstU
import Derived.Lib.MinMax
namespace Go.Proofs.Ythgfbnkggdlokaa
open Go.RowKit
set_option maxRecDepth 100000
set_option maxRecDepth 100000

def ev1 : Ev := ⟨0, 1, Ck.zero, 1, 1, ⟨#[99, 121]⟩, 0, ⟨#[]⟩⟩
theorem made1 : ∃ H, Pst.Made [ev1] H := by
  have hx : Tx.Fits ⟨1, ⟨#[99, 121]⟩, 0, ⟨#[]⟩⟩ := ⟨by decide, by decide, by decide, fun _ => ⟨rfl, rfl⟩, fun h => absurd (.inl rfl) h⟩
  have h := Pst.Made.edit Pst.Made.nil 0 _ (by omega) hx
  have e : Pst.evOf [] (fun _ => Ck.zero) 0 ⟨1, ⟨#[99, 121]⟩, 0, ⟨#[]⟩⟩ = ev1 := by
    unfold Pst.evOf ev1
    have : Pst.hgt [] Ck.zero = 1 := by
      show wrap64 (0 + 1) = 1
      decide +kernel
    rw [this]; rfl
  rw [e] at h
  exact ⟨_, h⟩
theorem right1 : Pst.right [ev1] = true := by
  obtain ⟨H, h⟩ := made1
  exact (Pst.right_iff _).2 (Pst.made_right h (by simp))
theorem ord1 : Pst.OrdP [ev1] := by
  obtain ⟨H, h⟩ := made1
  exact Pst.made_ord h (by simp)
theorem right0 : Pst.right [] = true := (Pst.right_iff _).2 (Pst.made_right .nil (by simp))
theorem ord0 : Pst.OrdP [] := Pst.made_ord .nil (by simp)
theorem hgt0 : Pst.hgt [] Ck.zero = 1 := by
  show wrap64 (0 + 1) = 1
  decide +kernel
theorem ordered_yes (es : List Ev) (A : Option Addr) (n cap : Nat) (w : World) (h : EvSl w A n cap es) (hn : n ≤ 1000000) (ho : Pst.OrdP es) :
    Calls Try.prog 24 #[.slice A n cap] w fun x w' => x = .returned (.bool true) ∧ Lex.Up w w' :=
  (ordered_any es A n cap w h hn).mono fun e w' ⟨⟨z, h1, h2⟩, h3⟩ => ⟨by rw [h1, h2.2 ho], h3⟩
theorem right_yes (es : List Ev) (A : Option Addr) (n cap : Nat) (w : World) (h : EvSl w A n cap es) (hr : Pst.RightP es) :
    Calls Try.prog 22 #[.slice A n cap] w fun x w' => x = .returned (.bool true) ∧ Lex.Up w w' :=
  (right_any es A n cap w h).mono fun e w' ⟨h1, h3⟩ => ⟨by rw [h1, (Pst.right_iff _).2 hr], h3⟩

set_option maxHeartbeats 1600000 in
theorem shown_any (w : World) : Calls Try.prog 20 #[] w fun x w' => x = .returned (.bool true) ∧ Lex.Up w w' := by
  have E1 := Lib.hid (show EvSl (w.alloc (.cells ev1.cells 51)) (some ⟨w.heap.size, 0, none⟩) 1 1 [ev1] from Sl.of_blk (t := 51) (by rw [evc_one]; exact Blk.new w ev1.cells _) (by rw [evc_one]; rfl) (by decide))
  have U0 := Lib.hid (show Lex.Up w (w.alloc (.cells ev1.cells 51)) from (Below.refl _ _).alloc (Nat.le_refl _) _)
  have C1 := Lib.hid (fun w1 (h : EvSl w1 (some ⟨w.heap.size, 0, none⟩) 1 1 [ev1]) => right_yes [ev1] _ 1 1 w1 h ((Pst.right_iff _).1 right1))
  have C2 := Lib.hid (fun w1 (h : EvSl w1 (some ⟨w.heap.size, 0, none⟩) 1 1 [ev1]) => ordered_yes [ev1] _ 1 1 w1 h (by decide) ord1)
  have C3 := Lib.hid (fun w1 => right_yes [] none 0 0 w1 (EvSl.none w1) ((Pst.right_iff _).1 right0))
  have C4 := Lib.hid (fun w1 => ordered_yes [] none 0 0 w1 (EvSl.none w1) (by decide) ord0)
  have C5 := Lib.hid (fun w1 => height_any [] Ck.zero none 0 0 w1 (EvSl.none w1))
  rw [hgt0] at C5
  unfold Ck.val Ck.zero at C5
  go_enter Try.func20, Try.ntmps20
  go_upto_region 2 with (fail)
  refine wp_named (fun W hW => ?_)
  rw [← show W = w.alloc (.cells ev1.cells 51) from hW] at E1 U0
  clear hW
  go_wp2_with fail
  refine (C1.out _ E1.out).mono ?_
  rintro x w1 ⟨rfl, h1⟩
  go_wp2_with fail
  refine (C2.out _ (E1.out.up h1)).mono ?_
  rintro x w2 ⟨rfl, h2⟩
  go_wp2_with fail
  refine (C3.out _).mono ?_
  rintro x w3 ⟨rfl, h3⟩
  go_wp2_with fail
  refine (C4.out _).mono ?_
  rintro x w4 ⟨rfl, h4⟩
  go_wp2_with fail
  refine (C5.out _).mono ?_
  rintro x w5 ⟨rfl, h5⟩
  go_wp2
  go_ret
  exact ⟨rfl, U0.out.trans (h1.trans (h2.trans (h3.trans (h4.trans h5))))⟩

theorem short_any (A : Option Addr) (n cap : Nat) (w : World) (cs : List Ch) (h : ChSl w A n cap cs) :
    Calls Try.prog 34 #[.slice A n cap] w fun x w' => (∃ m, m ≤ 40 ∧ m ≤ n ∧ x = .returned (.slice A m cap)) ∧ w' = w := by
  have hc : n ≤ cap := h.2.1
  have hm : cap ≤ 9223372036854775807 := h.2.2.1
  clear h
  by_cases h40 : n ≤ 40
  · have e : min (n : Int) 40 = n := by omega
    go_enter Try.func34, Try.ntmps34
    go_wp2
    go_ret
    exact ⟨⟨n, h40, Nat.le_refl _, rfl⟩, rfl⟩
  · have e : min (n : Int) 40 = 40 := by omega
    go_enter Try.func34, Try.ntmps34
    go_wp2
    go_ret
    exact ⟨⟨40, Nat.le_refl _, by omega, rfl⟩, rfl⟩
end Go.Proofs.Ythgfbnkggdlokaa
