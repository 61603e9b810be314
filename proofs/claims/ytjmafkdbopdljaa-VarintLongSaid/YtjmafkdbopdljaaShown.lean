/-
  The walk of the head of all statements of layer 1: the document's examples.
-/
import Derived.Test.YtjmafkdbopdljaaTake
import Derived.Deep.QuietTactic
import Derived.BigQuiet
namespace Go.Proofs.Ytjmafkdbopdljaa
open Go.RowKit

theorem slc_two (w : World) (a b : Nat) (ha : a < 256) (hb : b < 256) : Slc (w.alloc (.cells #[.int .u8 a, .int .u8 b] 5)) (some ⟨w.heap.size, 0, none⟩) 2 2 [a, b] := by
  refine ⟨rfl, Nat.le_refl _, by omega, fun j => ?_, fun _ => ⟨w.heap.size, 0, rfl, by simp, fun j hj => ?_⟩⟩
  · match j with
    | 0 => exact ha
    | 1 => exact hb
    | j + 2 => simp [Pl.nth]
  · rw [World.cell?_alloc_at _ _ _ _ rfl]
    match j, hj with
    | 0, _ => rfl
    | 1, _ => rfl

theorem take_shown : Pl.take [128, 0] = (0, 0, 3) := by decide
theorem put_shown : Pl.put 300 = [172, 2] := by decide

set_option maxRecDepth 100000 in
set_option maxHeartbeats 400000 in
theorem shown_any (w : World) : Calls Try.prog 9 #[] w fun e w' => e = .returned (.bool true) ∧ Below w.heap.size w w' := by
  have c1 := take_any _ 2 2 _ _ (slc_two w 128 0 (by omega) (by omega))
  rw [take_shown] at c1
  have C1 := Lib.hid c1; clear c1
  have c2 : ∀ w, Calls Try.prog 13 #[.int .u64 300] w (RetBytes w (Pl.put 300)) := fun w => put_any 300 w (by omega)
  rw [put_shown] at c2
  have C2 := Lib.hid c2; clear c2
  go_enter Try.func9, Try.ntmps9
  go_wp2_with fail
  refine C1.out.mono ?_
  rintro e w' ⟨rfl, rfl⟩
  go_wp2_with fail
  refine (C2.out _).mono ?_
  rintro e w1 ⟨A, cap, rfl, hown, hb⟩
  have hs := slc_of_own hown (by decide)
  have hcv : (convert 23 9 (.slice A 2 cap)).run Try.prog w1 = .ok (.string (str [172, 2])) w1 := conv_slc hs
  have hst : ((str [172, 2]).toList == [172, 2]) = true := by
    rw [ByteArray.toList_eq]; decide
  have HS := Lib.hid hs; clear hs
  have HO := Lib.hid hown; clear hown
  go_wp2
  go_ret
  exact ⟨rfl, ((Below.refl _ _).alloc (Nat.le_refl _) _).trans (hb.mono (by simp))⟩
end Go.Proofs.Ytjmafkdbopdljaa
