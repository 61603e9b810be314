/-
  The walks of event.octet and event.number, and of what they hand back.
-/
import Derived.Test.YthgfbnkggdlokaaEvC
namespace Go.Proofs.Ythgfbnkggdlokaa
open Go.RowKit
set_option maxRecDepth 100000

set_option maxRecDepth 100000 in
set_option maxHeartbeats 1000000 in
theorem octet1_any (bl bh bt : Nat) (lo hi : Int) (p : Addr) (A : Option Addr) (n cap : Nat) (xs : List Nat) (w : World)
    (hlo : w.cell? ⟨bl, 0, none⟩ = some (.int .u8 lo)) (hhi : w.cell? ⟨bh, 0, none⟩ = some (.int .u8 hi)) (hto : w.cell? ⟨bt, 0, none⟩ = some (.pointer (some p)))
    (hp : ∃ old, w.cell? p = some old) (hf : w.frozen? p = false) (hs : Slc w A n cap xs) :
    Calls Try.prog 133 #[.slice A n cap, .pointer (some ⟨bl, 0, none⟩), .pointer (some ⟨bh, 0, none⟩), .pointer (some ⟨bt, 0, none⟩)] w fun x w' =>
      x = .returned (.tuple #[.int .i64 ((Fl.octR lo hi xs).2.1 : Nat), .int .i64 ((Fl.octR lo hi xs).2.2 : Nat)]) ∧ Wrote w w' p (Fl.octR lo hi xs).2.2 (.int .i64 ((Fl.octR lo hi xs).1 : Nat)) := by
  obtain ⟨hl, hc, hm, hlt, hcell⟩ := hs
  cases xs with
  | nil =>
    have hn : n = 0 := by simpa using hl.symm
    subst hn
    clear hl hlt hcell hp hf
    rw [show Fl.octR lo hi [] = (0, 0, 2) from rfl]
    go_enter Try.func133, Try.ntmps133
    go_wp2
    go_ret2
    exact ⟨rfl, Wrote.bad (Lex.Up.refl w) (by decide)⟩
  | cons x xs =>
    have hn : 0 < n := by rw [← hl]; simp
    obtain ⟨b, off, rfl, hbl, hcl⟩ := hcell hn
    have hx : w.cell? ⟨b, off, none⟩ = some (.int .u8 (x : Nat)) := by have := hcl 0 hn; simpa [bv, Pl.nth] using this
    have hxlt : x < 256 := by have := hlt 0; simpa [Pl.nth] using this
    have n0 : ((n : Int) == 0) = false := by simp; omega
    have n1 : (0 : Int) < n := by omega
    have e : Fl.octR lo hi (x :: xs) = if (x : Int) < lo ∨ hi < (x : Int) then (0, 0, 3) else (x, 1, 0) := rfl
    rw [e]
    clear e hcell hcl hlt hl hn
    obtain ⟨old, hp⟩ := hp
    by_cases h1 : (x : Int) < lo
    · rw [if_pos (.inl h1)]
      have d1 : decide ((x : Int) < lo) = true := by simpa using h1
      go_enter Try.func133, Try.ntmps133
      go_wp2
      go_region
      go_wp2
      go_ret2
      exact ⟨rfl, Wrote.bad (Lex.Up.drew w) (by decide)⟩
    have d1 : decide ((x : Int) < lo) = false := by simpa using h1
    by_cases h2 : hi < (x : Int)
    · rw [if_pos (.inr h2)]
      have d2 : decide (hi < (x : Int)) = true := by simpa using h2
      go_enter Try.func133, Try.ntmps133
      go_wp2
      go_region
      go_wp2
      go_ret2
      exact ⟨rfl, Wrote.bad (Lex.Up.drew w) (by decide)⟩
    have d2 : decide (hi < (x : Int)) = false := by simpa using h2
    rw [if_neg (by omega)]
    have wx : IntKind.i64.wrap (x : Int) = x := IntWalk.i64_in _ ⟨by omega, by omega⟩
    go_enter Try.func133, Try.ntmps133
    go_wp2
    go_region
    go_wp2
    go_region
    go_wp2
    go_ret2
    exact ⟨rfl, (Wrote.ok (w := w) (w1 := w.drew.drew) ((Lex.Up.drew w).trans (Lex.Up.drew _)) : Wrote w (w.drew.drew.setCell p (.int .i64 (x : Nat))) p 0 (.int .i64 (x : Nat)))⟩

/-- Three boxes. -/
def box3 (w : World) (u v x : Value) (t1 t2 t3 : TypeId) : World := ((w.alloc (.cells #[u] t1)).alloc (.cells #[v] t2)).alloc (.cells #[x] t3)
theorem box3_is (w : World) (u v x : Value) (t1 t2 t3 : TypeId) : Blk (box3 w u v x t1 t2 t3) w.heap.size #[u] t1 ∧ Blk (box3 w u v x t1 t2 t3) (w.heap.size + 1) #[v] t2 ∧ Blk (box3 w u v x t1 t2 t3) (w.heap.size + 1 + 1) #[x] t3 ∧ Lex.Up w (box3 w u v x t1 t2 t3) ∧ (box3 w u v x t1 t2 t3).heap.size = w.heap.size + 1 + 1 + 1 := by
  have h1 := Blk.new w #[u] t1
  have h2 := Blk.new (w.alloc (.cells #[u] t1)) #[v] t2
  have h3 := Blk.new ((w.alloc (.cells #[u] t1)).alloc (.cells #[v] t2)) #[x] t3
  simp only [World.size_alloc] at h2 h3
  refine ⟨(h1.alloc _).alloc _, h2.alloc _, h3, ?_, by simp [box3]⟩
  exact (((Below.refl _ _).alloc (Nat.le_refl _) _).alloc (by simp) _).alloc (by simp; omega) _

theorem octet_any (p : Addr) (lo hi : Int) (w : World) : Calls Try.prog 122 #[.pointer (some p), .int .u8 lo, .int .u8 hi] w fun x w' =>
    ∃ F, x = .returned F ∧ Lex.Up w w' ∧ LeafAt w.heap.size w'.heap.size w' F p (fun m : Nat => .int .i64 (m : Nat)) (Fl.octR lo hi) := by
  have HB := Lib.hid (box3_is w (.pointer (some p)) (.int .u8 lo) (.int .u8 hi) 123 5 5)
  have eg := enters Try.func133 (by kernel_rfl) rfl
  have EG := Lib.hid eg; clear eg
  go_enter Try.func122, Try.ntmps122
  go_wp2
  go_ret
  obtain ⟨b1, b2, b3, hu, hz⟩ := HB.out
  refine ⟨_, rfl, hu, _, _, rfl, EG.out, fun W A n cap xs hk hp hf hs => ?_⟩
  change Keep w.heap.size (box3 w (.pointer (some p)) (.int .u8 lo) (.int .u8 hi) 123 5 5).heap.size _ W at hk
  rw [hz] at hk
  exact octet1_any (w.heap.size + 1) (w.heap.size + 1 + 1) w.heap.size lo hi p A n cap xs W ((hk.blk b2 (by omega) (by omega)).cell rfl) ((hk.blk b3 (by omega) (by omega)).cell rfl) ((hk.blk b1 (by omega) (by omega)).cell rfl) hp hf hs

set_option maxRecDepth 100000 in
set_option maxHeartbeats 1000000 in
theorem number1_any (bl bh bt : Nat) (lo hi : Int) (p : Addr) (A : Option Addr) (n cap : Nat) (xs : List Nat) (w : World) (hi2 : hi ≤ 9223372036854775807)
    (hlo : w.cell? ⟨bl, 0, none⟩ = some (.int .u64 lo)) (hhi : w.cell? ⟨bh, 0, none⟩ = some (.int .u64 hi)) (hto : w.cell? ⟨bt, 0, none⟩ = some (.pointer (some p)))
    (hp : ∃ old, w.cell? p = some old) (hf : w.frozen? p = false) (hs : Slc w A n cap xs) :
    Calls Try.prog 134 #[.slice A n cap, .pointer (some ⟨bl, 0, none⟩), .pointer (some ⟨bh, 0, none⟩), .pointer (some ⟨bt, 0, none⟩)] w fun x w' =>
      x = .returned (.tuple #[.int .i64 ((Fl.numR lo hi xs).2.1 : Nat), .int .i64 ((Fl.numR lo hi xs).2.2 : Nat)]) ∧ Wrote w w' p (Fl.numR lo hi xs).2.2 (.int .i64 ((Fl.numR lo hi xs).1 : Nat)) := by
  have C := Lib.hid (take_any A n cap xs w hs)
  have e : Fl.numR lo hi xs = if (Pl.take xs).2.2 ≠ 0 then (0, 0, (Pl.take xs).2.2) else if ((Pl.take xs).1 : Int) < lo ∨ hi < ((Pl.take xs).1 : Int) then (0, 0, 3) else ((Pl.take xs).1, (Pl.take xs).2.1, 0) := rfl
  rw [e]
  clear e hs
  generalize hT : Pl.take xs = T at *
  obtain ⟨m, u, z⟩ := T
  have hm : m < 18446744073709551616 := by
    have : (Pl.take xs).1 < 18446744073709551616 := by
      unfold Pl.take
      split
      · simp
      · split
        · exact Pl.valTo_lt _ _
        · simp
    rw [hT] at this; exact this
  clear hT
  obtain ⟨old, hp⟩ := hp
  by_cases hz : z = 0
  rotate_left
  · rw [if_pos (by simpa using hz)]
    have z0 : ((z : Int) == 0) = false := by simp; omega
    have z1 : ((z : Int) != 0) = true := by simp [bne, z0]
    have Z := Lib.hid hz; clear hz
    go_enter Try.func134, Try.ntmps134
    go_wp2_with fail
    refine C.out.mono ?_
    rintro x w1 ⟨rfl, rfl⟩
    go_wp2
    go_ret2
    exact ⟨rfl, Wrote.bad (Lex.Up.refl w) Z.out⟩
  subst hz
  rw [if_neg (by simp)]
  by_cases h1 : (m : Int) < lo
  · rw [if_pos (.inl h1)]
    have d1 : decide ((m : Int) < lo) = true := by simpa using h1
    go_enter Try.func134, Try.ntmps134
    go_wp2_with fail
    refine C.out.mono ?_
    rintro x w1 ⟨rfl, rfl⟩
    go_wp2
    go_ret2
    exact ⟨rfl, Wrote.bad (Lex.Up.refl w) (by decide)⟩
  have d1 : decide ((m : Int) < lo) = false := by simpa using h1
  by_cases h2 : hi < (m : Int)
  · rw [if_pos (.inr h2)]
    have d2 : decide (hi < (m : Int)) = true := by simpa using h2
    go_enter Try.func134, Try.ntmps134
    go_wp2_with fail
    refine C.out.mono ?_
    rintro x w1 ⟨rfl, rfl⟩
    go_wp2
    go_ret2
    exact ⟨rfl, Wrote.bad (Lex.Up.refl w) (by decide)⟩
  have d2 : decide (hi < (m : Int)) = false := by simpa using h2
  rw [if_neg (by omega)]
  have wm : IntKind.i64.wrap (m : Int) = m := IntWalk.i64_in _ ⟨by omega, by omega⟩
  go_enter Try.func134, Try.ntmps134
  go_wp2_with fail
  refine C.out.mono ?_
  rintro x w1 ⟨rfl, rfl⟩
  go_wp2
  go_ret2
  exact ⟨rfl, Wrote.ok (Lex.Up.refl w)⟩
theorem number_any (p : Addr) (lo hi : Int) (hi2 : hi ≤ 9223372036854775807) (w : World) : Calls Try.prog 123 #[.pointer (some p), .int .u64 lo, .int .u64 hi] w fun x w' =>
    ∃ F, x = .returned F ∧ Lex.Up w w' ∧ LeafAt w.heap.size w'.heap.size w' F p (fun m : Nat => .int .i64 (m : Nat)) (Fl.numR lo hi) := by
  have HB := Lib.hid (box3_is w (.pointer (some p)) (.int .u64 lo) (.int .u64 hi) 123 67 67)
  have eg := enters Try.func134 (by kernel_rfl) rfl
  have EG := Lib.hid eg; clear eg
  go_enter Try.func123, Try.ntmps123
  go_wp2
  go_ret
  obtain ⟨b1, b2, b3, hu, hz⟩ := HB.out
  refine ⟨_, rfl, hu, _, _, rfl, EG.out, fun W A n cap xs hk hp hf hs => ?_⟩
  change Keep w.heap.size (box3 w (.pointer (some p)) (.int .u64 lo) (.int .u64 hi) 123 67 67).heap.size _ W at hk
  rw [hz] at hk
  exact number1_any (w.heap.size + 1) (w.heap.size + 1 + 1) w.heap.size lo hi p A n cap xs W hi2 ((hk.blk b2 (by omega) (by omega)).cell rfl) ((hk.blk b3 (by omega) (by omega)).cell rfl) ((hk.blk b1 (by omega) (by omega)).cell rfl) hp hf hs
end Go.Proofs.Ythgfbnkggdlokaa
