/-
  A slice of choices that is handed in, opened.
-/
import Derived.Test.YthgfbnkggdlokaaPstM
import Derived.Test.YthgfbnkggdlokaaOpn5
import Derived.Deep.SlicePairs
namespace Go.Proofs.Ythgfbnkggdlokaa
open Go.RowKit Go.ChangeShapes Go.WideShapes Go.Deep
set_option maxRecDepth 100000
section
variable {H : Type} {enc : TypeId × Value → H} {w : World} {base : Nat} {spare : Nat → Bool} {held : Bool} {r : Reach} {b0 : Nat} {v : Value} {d : DataW H} {p : List MemPlace}

theorem u16_nat8 {a : Int} (h : (Lit.int .u16 a).wf = true) : ∃ n : Nat, a = n ∧ n < 65536 := by
  simp [Lit.wf, IntKind.min, IntKind.max, IntKind.bits, IntKind.signed] at h
  exact ⟨a.toNat, by omega, by omega⟩
/-- A choice as a datum. -/
def chDat (H : Type) (c : Ch) : DataW H := .agg [.lit (.int .u8 c.r), .lit (.int .u8 c.f), .lit (.bool c.y), edDat H c.ed]
theorem open_ch_cells {fuel : Nat} {cs : List Value} {y : DataW H × List MemPlace} (hsz' : cs.length = 7) (hf : DataW.trod enc Try.prog w base spare held fuel 98 cs = some y) :
    ∃ x : Ch, cs = x.cells.toList ∧ y.1 = chDat H x ∧ x.r < 256 ∧ x.f < 256 := by
  obtain ⟨xs, n, _, hx, hl, hlen, hfd⟩ := DataW.trod_struct Try.underlying98 hf
  have h1 : Try.prog.cellsOf 5 = 1 := by kernel_rfl
  have h2 : Try.prog.cellsOf 4 = 1 := by kernel_rfl
  have h4 : Try.prog.cellsOf 96 = 4 := by kernel_rfl
  have h1' : Try.prog.cellsOf 3 = 1 := by kernel_rfl
  have h9 : Try.prog.cellsOf 9 = 1 := by kernel_rfl
  match cs, hsz' with
  | [c0, c1, c2, c3, c4, c5, c6], _ =>
    match xs, hlen with
    | [y0, y1, y2, y3], _ =>
      have t0 := hfd 0 _ rfl
      have t1 := hfd 1 _ rfl
      have t2 := hfd 2 _ rfl
      have t3 := hfd 3 _ rfl
      simp [h1, h2, h4] at t0 t1 t2 t3
      obtain ⟨a0, e0, x0, w0⟩ := DataW.trod_int Try.underlying5 t0
      obtain ⟨a1, e1, x1, w1⟩ := DataW.trod_int Try.underlying5 t1
      obtain ⟨a2, e2, x2⟩ := DataW.trod_bool Try.underlying4 t2
      obtain ⟨zs, n3, _, hx3, hl3, hlen3, hfd3⟩ := DataW.trod_struct Try.underlying96 t3
      match zs, hlen3 with
      | [z0, z1, z2, z3], _ =>
        have s0 := hfd3 0 _ rfl
        have s1 := hfd3 1 _ rfl
        have s2 := hfd3 2 _ rfl
        have s3 := hfd3 3 _ rfl
        simp [h1', h9] at s0 s1 s2 s3
        obtain ⟨b0, f0, g0, _⟩ := DataW.trod_int Try.underlying3 s0
        obtain ⟨b1, f1, g1, _⟩ := DataW.trod_string Try.underlying9 s1
        obtain ⟨b2, f2, g2, _⟩ := DataW.trod_int Try.underlying3 s2
        obtain ⟨b3, f3, g3, _⟩ := DataW.trod_string Try.underlying9 s3
        obtain ⟨m0, rfl, k0⟩ := u8_nat w0
        obtain ⟨m1, rfl, k1⟩ := u8_nat w1
        simp only [List.cons.injEq, and_true] at e0 e1 e2 f0 f1 f2 f3
        subst e0 e1 e2 f0 f1 f2 f3
        refine ⟨⟨m0, m1, a2, ⟨b0, b1, b2, b3⟩⟩, rfl, ?_, k0, k1⟩
        rw [hx]
        simp [chDat, edDat, x0, x1, x2, hx3, g0, g1, g2, g3]
instance : Inhabited Ch := ⟨Ch.zero⟩
theorem ch_weights_all {P : Program} {e : TypeId} {m : Nat} {x : DataW H} : ∀ {xs : List (DataW H)}, x ∈ xs → m ∈ x.weights P e → m ∈ DataW.weightsAll P e xs
  | y :: ys, hx, hm => by
    rw [DataW.weightsAll, List.mem_append]
    rcases List.mem_cons.1 hx with rfl | hx
    · exact .inl hm
    · exact .inr (ch_weights_all hx hm)
/-- A slice of choices, by its one cell. -/
theorem open_chs_cell {fuel : Nat} {c : Value} {y : DataW H × List MemPlace} (hf : DataW.trod enc Try.prog w base spare held fuel 44 [c] = some y) :
    ∃ A n cap cs, c = .slice A n cap ∧ ChSl w A n cap cs ∧ ∀ x ∈ cs, (x.r < 256 ∧ x.f < 256) ∧ ∀ m ∈ (chDat H x).weights Try.prog 98, m ∈ y.1.weights Try.prog 44 := by
  rcases open_slice Try.underlying44 hf with ⟨hc, _⟩ | ⟨a, len, cap, m, n, D, Pl, hc, _, hl, hm, hmm, hy, hx⟩
  · simp only [List.cons.injEq, and_true] at hc
    subst hc
    exact ⟨none, 0, 0, [], rfl, Sl.none w 7, fun e he => by cases he⟩
  · simp only [List.cons.injEq, and_true] at hc
    subst hc
    have hlm : len ≤ m := by rw [hmm]; split <;> omega
    have c7 : Try.prog.cellsOf 98 = 7 := by kernel_rfl
    have each : ∀ i, i < len → ∃ x : Ch, (∀ j, j < 7 → w.cell? ((a.add (i * 7)).add j) = x.cells.toList[j]?) ∧ D i = chDat H x ∧ x.r < 256 ∧ x.f < 256 := fun i hi => by
      obtain ⟨cs', h1, h2⟩ := hx i (by omega)
      rw [c7] at h1
      obtain ⟨_, hlen, hcell⟩ := World.cells?_some h1
      obtain ⟨x, e1, e2, e3⟩ := open_ch_cells hlen h2
      subst e1
      exact ⟨x, fun j hj => hcell j hj, e2, e3⟩
    obtain ⟨q, hq⟩ := choose_lt each
    have hnth : ∀ i, i < len → Ch.nth ((List.range len).map q) i = q i := fun i hi => by simp [Ch.nth, hi]
    refine ⟨some a, len, cap, (List.range len).map q, rfl, ⟨by rw [Ch.flat_len]; simp, hl, by simp only [maxLen] at hm; omega, fun h0 => ?_⟩, fun e he => ?_⟩
    · obtain ⟨b, off, sp⟩ := a
      have h00 := (hq 0 h0).1 0 (by omega)
      have h00' : w.cell? (((⟨b, off, sp⟩ : Addr).add (0 * 7)).add 0) = some (.int .u8 (q 0).r) := h00
      have hsp : sp = none := by simpa [Addr.add] using World.cell?_spot h00'
      subst hsp
      have hlt := World.block_lt_of_cell? w _ h00'
      have hadd : ∀ b off j, (⟨b, off, none⟩ : Addr).add j = ⟨b, off + j, none⟩ := fun b off j => by unfold Addr.add; split <;> simp_all
      refine ⟨b, off, rfl, by simpa [hadd] using hlt, fun j u hu => ?_⟩
      have hj : j < len * 7 := by
        rcases Nat.lt_or_ge j (len * 7) with h | h
        · exact h
        · rw [List.getElem?_eq_none (by rw [Ch.flat_len]; simpa using h)] at hu; cases hu
      have hi : j / 7 < len := by omega
      have hc := (hq (j / 7) hi).1 (j % 7) (by omega)
      rw [hadd, hadd, show off + j / 7 * 7 + j % 7 = off + j by omega] at hc
      rw [hc]
      have hv : ∃ v, (q (j / 7)).cells.toList[j % 7]? = some v := ⟨_, List.getElem?_eq_getElem (by rw [Ch.cells_len]; omega)⟩
      obtain ⟨v, hv⟩ := hv
      have := Ch.flat_nth ((List.range len).map q) (j / 7) (by simpa using hi) (j % 7) v (by omega) (by rw [hnth _ hi]; exact hv)
      rw [show j / 7 * 7 + j % 7 = j by omega, hu] at this
      rw [hv, ← this]
    · obtain ⟨i, hi, rfl⟩ := List.mem_map.1 he
      have hi' : i < len := by simpa using hi
      refine ⟨(hq i hi').2.2, fun m' hm' => ?_⟩
      have hD : chDat H (q i) ∈ (List.range len).map D := List.mem_map.2 ⟨i, hi, (hq i hi').2.1⟩
      rw [hy]
      simp only [DataW.weights, Try.underlying44, List.mem_cons, List.mem_append]
      exact .inr (.inl (ch_weights_all hD hm'))
theorem open_chs (hv : Value.okWide Try.prog w r b0 44 v) (h : DataW.Trod enc Try.prog w base spare held 44 v d p) {ts : List TypeId} {ds : List (DataW H)} (hz : (DataW.weightsEach Try.prog ts ds).all (· ≤ reachBytes) = true) {j : Nat} (ht : ts[j]? = some 44) (hd : ds[j]? = some d) : ∃ A n cap cs, v = .slice A n cap ∧ ChSl w A n cap cs ∧ ∀ c ∈ cs, Ch.Ok c := by
  obtain ⟨a0, len0, cap0, rfl⟩ := okWide_slice Try.underlying44 hv
  obtain ⟨fuel, hf⟩ := h
  obtain ⟨A, n, cap, cs, hc, hs, hw⟩ := open_chs_cell (c := .slice a0 len0 cap0) (by simpa [Value.cells] using hf)
  refine ⟨A, n, cap, cs, hc, hs, fun c hc => ?_⟩
  obtain ⟨⟨h1, h2⟩, h3⟩ := hw c hc
  have len : ∀ s : ByteArray, s.data.toList.length = s.size := fun s => by rw [Array.length_toList]; rfl
  have k1 := List.all_eq_true.1 hz _ (DataW.weights_mem_each ht hd c.ed.key.size (h3 _ (by simp [chDat, edDat, DataW.weights, DataW.weightsEach, Try.underlying98, Try.underlying96, len])))
  have k2 := List.all_eq_true.1 hz _ (DataW.weights_mem_each ht hd c.ed.v.size (h3 _ (by simp [chDat, edDat, DataW.weights, DataW.weightsEach, Try.underlying98, Try.underlying96, len])))
  have : reachBytes = 140737488351232 := by decide
  simp only [decide_eq_true_eq, this] at k1 k2
  exact ⟨h1, h2, k1, k2⟩
end
end Go.Proofs.Ythgfbnkggdlokaa
