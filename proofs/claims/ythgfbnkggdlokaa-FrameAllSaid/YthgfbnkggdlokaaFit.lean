/-
  The walk of the reference's Fit: an edit that may be.
-/
import Derived.Test.YthgfbnkggdlokaaEdW
import Derived.Test.YthgfbnkggdlokaaBits
import Derived.StillTailTactics
namespace Go.Proofs.Ythgfbnkggdlokaa
open Go.RowKit
set_option maxRecDepth 100000
namespace Tx
/-- An edit that may be: what Fit yields. -/
structure Fits (x : Ed) : Prop where
  k1 : 1 ≤ x.k
  k5 : x.k ≤ 5
  key : Tx.key x.key = 0
  bare : x.k = 1 ∨ x.k = 2 → x.l = 0 ∧ x.v = ByteArray.mk #[]
  full : ¬ (x.k = 1 ∨ x.k = 2) → (x.l = 0 ∨ x.l = 1) ∧ 1 ≤ x.v.size ∧ x.v.size ≤ 12
end Tx

def FitSumRel (s : ByteArray) (v u : Value) : Prop := ∃ i n : Nat, u = .int .i64 i ∧ v = .int .i64 n ∧ i ≤ s.size ∧ n ≤ 255 * i

def keyCells : Array Value := #[.string ⟨#[97, 110, 110]⟩, .string ⟨#[98, 111, 98]⟩, .string ⟨#[99, 121]⟩]
def valCells : Array Value := #[.string ⟨#[49]⟩, .string ⟨#[116, 119, 111]⟩, .string ⟨#[0, 255]⟩, .string ⟨#[116, 119, 101, 108, 118, 101, 32, 98, 121, 116, 101, 115]⟩]
def noEd : Ed := ⟨0, ⟨#[]⟩, 0, ⟨#[]⟩⟩
def fitW (w : World) (x : Ed) : World := (((w.alloc (.cells x.cells 96)).alloc (.cells noEd.cells 96)).alloc (.cells keyCells 120)).alloc (.cells valCells 121)
theorem fitW_is (w : World) (x : Ed) : Blk (fitW w x) w.heap.size x.cells 96 ∧ Blk (fitW w x) (w.heap.size + 1) noEd.cells 96 ∧ Blk (fitW w x) (w.heap.size + 1 + 1) keyCells 120 ∧ Blk (fitW w x) (w.heap.size + 1 + 1 + 1) valCells 121 ∧ Below w.heap.size w (fitW w x) ∧ (fitW w x).heap.size = w.heap.size + 1 + 1 + 1 + 1 := by
  have h1 := Blk.new w x.cells 96
  have h2 := Blk.new (w.alloc (.cells x.cells 96)) noEd.cells 96
  have h3 := Blk.new ((w.alloc (.cells x.cells 96)).alloc (.cells noEd.cells 96)) keyCells 120
  have h4 := Blk.new (((w.alloc (.cells x.cells 96)).alloc (.cells noEd.cells 96)).alloc (.cells keyCells 120)) valCells 121
  simp only [World.size_alloc] at h2 h3 h4
  refine ⟨((h1.alloc _).alloc _).alloc _, (h2.alloc _).alloc _, h3.alloc _, h4, ?_, by simp [fitW]⟩
  exact ((((Below.refl _ _).alloc (Nat.le_refl _) _).alloc (by simp) _).alloc (by simp; omega) _).alloc (by simp; omega) _

theorem fit_vals (W : World) {b : Nat} {t : TypeId} (h : Blk W b valCells t) (m : Nat) : ∃ i : Nat, (m : Int).tmod 4 = (i : Int) ∧ (i : Int) < 4 ∧ ∃ s : ByteArray, W.cell? ⟨b, i, none⟩ = some (.string s) ∧ Hid (1 ≤ s.size ∧ s.size ≤ 12) := by
  refine ⟨m % 4, by rw [Int.tmod_eq_emod_of_nonneg (by omega)]; omega, by omega, ?_⟩
  have h3 : m % 4 = 0 ∨ m % 4 = 1 ∨ m % 4 = 2 ∨ m % 4 = 3 := by omega
  rcases h3 with h0 | h0 | h0 | h0 <;> rw [h0]
  · exact ⟨_, h.cell rfl, Lib.hid (by decide)⟩
  · exact ⟨_, h.cell rfl, Lib.hid (by decide)⟩
  · exact ⟨_, h.cell rfl, Lib.hid (by decide)⟩
  · exact ⟨_, h.cell rfl, Lib.hid (by decide)⟩
theorem fit_keys (W : World) {b : Nat} {t : TypeId} (h : Blk W b keyCells t) (m : Nat) : ∃ i : Nat, (m : Int).tmod 3 = (i : Int) ∧ (i : Int) < 3 ∧ ∃ s : ByteArray, W.cell? ⟨b, i, none⟩ = some (.string s) ∧ Hid (Tx.key s = 0) := by
  refine ⟨m % 3, by rw [Int.tmod_eq_emod_of_nonneg (by omega)]; omega, by omega, ?_⟩
  have h3 : m % 3 = 0 ∨ m % 3 = 1 ∨ m % 3 = 2 := by omega
  rcases h3 with h0 | h0 | h0 <;> rw [h0]
  · exact ⟨_, h.cell rfl, Lib.hid (by decide)⟩
  · exact ⟨_, h.cell rfl, Lib.hid (by decide)⟩
  · exact ⟨_, h.cell rfl, Lib.hid (by decide)⟩
theorem fit_kind (k : Int) : ∃ q : Int, IntKind.i64.wrap (1 + (IntKind.i64.wrap (k.tmod 5 + 5)).tmod 5) = q ∧ Hid (1 ≤ q ∧ q ≤ 5) := by
  have e1 : -4 ≤ k.tmod 5 ∧ k.tmod 5 ≤ 4 := by
    have h1 := Int.lt_tmod_of_pos k (b := 5) (by omega)
    have h2 := Int.tmod_lt_of_pos k (b := 5) (by omega)
    omega
  generalize k.tmod 5 = a at e1
  rw [IntWalk.i64_in (a + 5) ⟨by omega, by omega⟩]
  have e2 : 0 ≤ (a + 5).tmod 5 ∧ (a + 5).tmod 5 ≤ 4 := by
    rw [Int.tmod_eq_emod_of_nonneg (by omega)]; omega
  generalize (a + 5).tmod 5 = b at e2
  rw [IntWalk.i64_in _ ⟨by omega, by omega⟩]
  exact ⟨_, rfl, Lib.hid ⟨by omega, by omega⟩⟩

set_option maxHeartbeats 1600000 in
theorem fit_any (x : Ed) (w : World) (h1 : x.key.size ≤ 140737488351232) (h3 : x.v.size ≤ 140737488351232) :
    Calls Try.prog 67 #[x.val] w fun e w' => ∃ y : Ed, Tx.Fits y ∧ e = .returned y.val ∧ Below w.heap.size w w' := by
  obtain ⟨k, y, l, v⟩ := x
  have FW := fitW_is w ⟨k, y, l, v⟩
  simp only [Ed.val] at *
  go_enter Try.func67, Try.ntmps67
  go_wp2
  refine wp_named (fun W hW => ?_)
  change W = fitW w ⟨k, y, l, v⟩ at hW
  rw [<- hW] at FW
  obtain ⟨B0, B1, B2, B3, BL, SZ⟩ := FW
  obtain ⟨c0, c1, c2, c3⟩ := B0.ed
  have K0 := Lib.hid B0; have K1 := Lib.hid B1; have K2 := Lib.hid B2; have K3 := Lib.hid B3; have KL := Lib.hid BL; have KZ := Lib.hid SZ
  clear hW B0 B1 B2 B3 BL SZ
  go_loop [5, 6] (fun v u => FitSumRel y v u) (fun _ u => y.size - (intOf u).toNat)
  case atStart => exact ⟨0, 0, rfl, rfl, by omega, by omega⟩
  case round =>
    obtain ⟨i, n, rfl, rfl, hi, hn⟩ := hrel
    by_cases hp : i < y.size
    · have hx : ∀ w : World, (Instr.index 9 (.string y) (.int .i64 i)).run Try.prog w = .ok (.int .u8 (Tx.at_ y i)) w := fun w => by
        rw [run_index_string w _ _ _ _ Try.underlying9, dif_pos ⟨by omega, by omega⟩, ← Tx.get_at_ y i hp]; rfl
      have hb := Tx.at_lt y i
      generalize Tx.at_ y i = c at *
      go_wp2
      go_round
      case rel => exact ⟨i + 1, n + c, by go_num, by go_num, by omega, by omega⟩
      case measure => simp [intOf]; omega
    · obtain rfl : i = y.size := by omega
      go_wp2
      clear hi
      go_loop [7, 8] (fun q u => FitSumRel v q u) (fun _ u => v.size - (intOf u).toNat)
      case atStart => exact ⟨0, 0, rfl, rfl, by omega, by omega⟩
      case round =>
        obtain ⟨i, m, rfl, rfl, hi, hm⟩ := hrel
        by_cases hp : i < v.size
        · have hx : ∀ w : World, (Instr.index 9 (.string v) (.int .i64 i)).run Try.prog w = .ok (.int .u8 (Tx.at_ v i)) w := fun w => by
            rw [run_index_string w _ _ _ _ Try.underlying9, dif_pos ⟨by omega, by omega⟩, ← Tx.get_at_ v i hp]; rfl
          have hb := Tx.at_lt v i
          generalize Tx.at_ v i = c at *
          go_wp2
          go_round
          case rel => exact ⟨i + 1, m + c, by go_num, by go_num, by omega, by omega⟩
          case measure => simp [intOf]; omega
        · obtain rfl : i = v.size := by omega
          clear hi
          go_wp2
          obtain ⟨q, hq, HQ⟩ := fit_kind k
          obtain ⟨i, hi, hi3, s, hs, HS⟩ := fit_keys W K2.out n
          have L2 := K2.out.lt; have L0 := K0.out.lt; have L1 := K1.out.lt; have L3 := K3.out.lt
          go_region
          rw [IntWalk.i64_left, IntWalk.i64_left] at hq
          rw [hq]
          clear hs hi hq
          have J0 := Lib.hid (K0.out.alloc (.cells (Ed.cells ⟨q, s, 0, ⟨#[]⟩⟩) 96))
          have J1 := Lib.hid (K1.out.alloc (.cells (Ed.cells ⟨q, s, 0, ⟨#[]⟩⟩) 96))
          have J3 := Lib.hid (K3.out.alloc (.cells (Ed.cells ⟨q, s, 0, ⟨#[]⟩⟩) 96))
          have J4 := Lib.hid (Blk.new W (Ed.cells ⟨q, s, 0, ⟨#[]⟩⟩) 96)
          have JL := Lib.hid (KL.out.alloc KL.out.size (.cells (Ed.cells ⟨q, s, 0, ⟨#[]⟩⟩) 96)).drew
          clear K0 K1 K2 K3 KL KZ c0 c1 c2 c3
          generalize W.heap.size = b at *
          change Hid (Blk ((W.alloc (.cells #[.int .i64 q, .string s, .int .i64 0, .string ⟨#[]⟩] 96)).drew) _ _ _) at J0
          change Hid (Blk ((W.alloc (.cells #[.int .i64 q, .string s, .int .i64 0, .string ⟨#[]⟩] 96)).drew) _ _ _) at J1
          change Hid (Blk ((W.alloc (.cells #[.int .i64 q, .string s, .int .i64 0, .string ⟨#[]⟩] 96)).drew) _ _ _) at J3
          change Hid (Blk ((W.alloc (.cells #[.int .i64 q, .string s, .int .i64 0, .string ⟨#[]⟩] 96)).drew) _ _ _) at J4
          change Hid (Below _ _ ((W.alloc (.cells #[.int .i64 q, .string s, .int .i64 0, .string ⟨#[]⟩] 96)).drew)) at JL
          generalize (W.alloc (.cells #[.int .i64 q, .string s, .int .i64 0, .string ⟨#[]⟩] 96)).drew = W2 at *
          obtain ⟨d0, d1, d2, d3⟩ := J4.out.ed
          obtain ⟨c0, c1, c2, c3⟩ := J0.out.ed
          obtain ⟨e0, e1, e2, e3⟩ := J1.out.ed
          have f0 := J1.out.frozen 0; have f1 := J1.out.frozen 1; have f2 := J1.out.frozen 2; have f3 := J1.out.frozen 3
          have f4 := J4.out.frozen 2; have f5 := J4.out.frozen 3
          by_cases h2 : 2 < q
          · obtain ⟨i, hi, hi4, u, hu, HU⟩ := fit_vals W2 J3.out m
            go_wp2
            rw [and_one]
            have HL := Lib.hid (show l % 2 = 0 ∨ l % 2 = 1 by omega)
            generalize l % 2 = z at *
            have K := ((J1.out.other (p := ⟨b, 2, none⟩) (by simp; omega) (.int .i64 z)).other (p := ⟨b, 3, none⟩) (by simp; omega) (.string u)).set4 (.int .i64 q) (.string s) (.int .i64 z) (.string u)
            have B := (((((JL.out.setCell (p := ⟨b, 2, none⟩) (by simp; omega) (.int .i64 z)).setCell (p := ⟨b, 3, none⟩) (by simp; omega) (.string u)).setCell (p := ⟨w.heap.size + 1, 0, none⟩) (by simp) (.int .i64 q)).setCell (p := ⟨w.heap.size + 1, 1, none⟩) (by simp) (.string s)).setCell (p := ⟨w.heap.size + 1, 2, none⟩) (by simp) (.int .i64 z)).setCell (p := ⟨w.heap.size + 1, 3, none⟩) (by simp) (.string u)
            generalize World.setCell _ ⟨w.heap.size + 1, 3, none⟩ (.string u) = W3 at *
            have k0 := K.cell (j := 0) rfl
            have k1 := K.cell (j := 1) rfl
            have k2 := K.cell (j := 2) rfl
            have k3 := K.cell (j := 3) rfl
            exact bodyPost_ret (v := .agg #[.int .i64 q, .string s, .int .i64 z, .string u]) (by simp [results, Try.results67, go_sem, k0, k1, k2, k3]) rfl ⟨⟨q, s, z, u⟩, ⟨HQ.out.1, HQ.out.2, HS.out, fun h => by simp at h; omega, fun _ => ⟨HL.out, HU.out⟩⟩, rfl, B⟩
          · go_wp2
            have K := J1.out.set4 (.int .i64 q) (.string s) (.int .i64 0) (.string ⟨#[]⟩)
            have B := (((JL.out.setCell (p := ⟨w.heap.size + 1, 0, none⟩) (by simp) (.int .i64 q)).setCell (p := ⟨w.heap.size + 1, 1, none⟩) (by simp) (.string s)).setCell (p := ⟨w.heap.size + 1, 2, none⟩) (by simp) (.int .i64 0)).setCell (p := ⟨w.heap.size + 1, 3, none⟩) (by simp) (.string ⟨#[]⟩)
            generalize World.setCell _ ⟨w.heap.size + 1, 3, none⟩ (.string ⟨#[]⟩) = W3 at *
            have k0 := K.cell (j := 0) rfl
            have k1 := K.cell (j := 1) rfl
            have k2 := K.cell (j := 2) rfl
            have k3 := K.cell (j := 3) rfl
            exact bodyPost_ret (v := .agg #[.int .i64 q, .string s, .int .i64 0, .string ⟨#[]⟩]) (by simp [results, Try.results67, go_sem, k0, k1, k2, k3]) rfl ⟨⟨q, s, 0, ⟨#[]⟩⟩, ⟨HQ.out.1, HQ.out.2, HS.out, fun _ => ⟨rfl, rfl⟩, fun h => by have := HQ.out; simp at h; omega⟩, rfl, B⟩
end Go.Proofs.Ythgfbnkggdlokaa
