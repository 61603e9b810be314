/-
  Regions whose order is drawn, and whose operations may make memory: one walk in the order of the text serves every order.
  Each operation is described by a fact on the value that it yields, which stays true while the world grows ('Up': what was there is as it was).
  An operation may lean on the facts of those alone whose slots it looks at. So the order doesn't matter, and there is one way.
-/
import Derived.Still
import Derived.Below
import Derived.Deep.Draws
namespace Go.Proofs.Ytolpfchnfhdhkaa
open Go.RowKit
set_option maxRecDepth 100000
namespace Lex

/-- What was there is as it was. -/
def Up (w w' : World) : Prop := Below w.heap.size w w'
theorem Up.refl (w : World) : Up w w := Below.refl _ _
theorem Up.trans {a b c : World} (h : Up a b) (k : Up b c) : Up a c := Below.trans h (Below.mono k h.size)
theorem Up.drew (w : World) : Up w w.drew := (Below.refl _ _).drew

theorem getD_ne {α : Type} (xs : Array α) {i j : Nat} (h : i ≠ j) {v d : α} : (xs.setIfInBounds i v).getD j d = xs.getD j d := by
  rw [Array.getD_eq_getD_getElem?, Array.getD_eq_getD_getElem?, Array.getElem?_setIfInBounds_ne h]

abbrev Fact := Value → World → Prop
def UpC (R : Fact) : Prop := ∀ v w w', Up w w' → R v w → R v w'
theorem upC_eq (c : Value) : UpC (fun v _ => v = c) := fun _ _ _ _ h => h

section
variable {P : Program} {ops : Array Oper} {md : Region.Mode}

def okUpon (P : Program) (w : World) (R : Fact) : Result Next → Prop
  | .ok (.value v) w' => Up w w' ∧ R v w'
  | .ok .skip w' => Up w w' ∧ R undef w'
  | .ok (.enter f args) w' => Up w w' ∧ Calls P f args w' (fun e w'' => ∃ v, e = .returned v ∧ Up w w'' ∧ R v w'')
  | _ => False
/-- Operation o, carried out in state a and world w, yields a value of which R holds. -/
def opOk (P : Program) (ops : Array Oper) (o : Oper) (a : Act) (w : World) (R : Fact) : Prop :=
  if Region.wanted o (yielded ops a.tmps) then okUpon P w R ((execOp a.eval o).run P w) else R undef w

theorem wpOp_of_ok {i : Nat} {o : Oper} {a : Act} {w : World} {R : Fact} {K : Act → World → Prop} {Q : Exit → Act → World → Prop} (hi : ops[i]? = some o)
    (h : opOk P ops o a w R) (hK : ∀ v w', Up w w' → R v w' → K (a.put o.dst v) w') : wpOp P ops Q i K a w := by
  unfold wpOp
  simp only [hi]
  unfold opOk at h
  split
  · rename_i hw
    rw [if_pos hw] at h
    refine .inl ?_
    unfold Oper.wp
    generalize (execOp a.eval o).run P w = r at *
    cases r with
    | ok n w' =>
      cases n <;> simp only [okUpon] at h <;> simp only [Oper.upon]
      case value v => exact hK _ _ h.1 h.2
      case skip => exact hK _ _ h.1 h.2
      case enter f args =>
        refine h.2.mono fun e w'' he => ?_
        obtain ⟨v, rfl, hu, hr⟩ := he
        exact hK _ _ hu hr
    | halt x w' => simp only [okUpon] at h
  · rename_i hw
    rw [if_neg hw] at h
    exact hK _ _ (Up.refl _) h

theorem opOk_mono {o : Oper} {a : Act} {w : World} {R R' : Fact} (h : opOk P ops o a w R) (hR : ∀ v w', R v w' → R' v w') : opOk P ops o a w R' := by
  unfold opOk at *
  split
  · rename_i hw
    rw [if_pos hw] at h
    generalize (execOp a.eval o).run P w = r at *
    cases r with
    | ok n w' =>
      cases n <;> simp only [okUpon] at h ⊢
      case value v => exact ⟨h.1, hR _ _ h.2⟩
      case skip => exact ⟨h.1, hR _ _ h.2⟩
      case enter f args => exact ⟨h.1, h.2.mono fun e w'' he => by obtain ⟨v, h1, h2, h3⟩ := he; exact ⟨v, h1, h2, hR _ _ h3⟩⟩
    | halt x w' => simp only [okUpon] at h
  · rename_i hw
    rw [if_neg hw] at h
    exact hR _ _ h

theorem opOk_congr {o : Oper} {a b : Act} {w : World} {R : Fact} (hs : ∀ cs b, o.op ≠ .select cs b) (hz : a.tmps.size = b.tmps.size)
    (h : ∀ t ∈ o.looksAt ops, a.tmps.getD t undef = b.tmps.getD t undef) (hk : opOk P ops o a w R) : opOk P ops o b w R := by
  have he : execOp a.eval o = execOp b.eval o := execOp_congr o hs fun x hx => by
    cases x with
    | tmp t => exact h t (List.mem_append_left _ (List.mem_filterMap.2 ⟨.tmp t, by simpa using hx, rfl⟩))
    | _ => rfl
  have hw : Region.wanted o (yielded ops a.tmps) = Region.wanted o (yielded ops b.tmps) := by
    unfold Region.wanted
    cases hg : o.guard with
    | none => rfl
    | some gw =>
      obtain ⟨g, want⟩ := gw
      have hy : yielded ops a.tmps g = yielded ops b.tmps g := by
        unfold yielded
        cases ht : (ops[g]?).bind (·.dst) with
        | none => rfl
        | some t =>
          have h1 := h t (by simp [Oper.looksAt, hg, ht])
          have h2 : a.tmps[t]? = b.tmps[t]? := by
            rcases Nat.lt_or_ge t a.tmps.size with hlt | hge
            · have hlt' : t < b.tmps.size := hz ▸ hlt
              simp [Array.getD, hlt, hlt'] at h1
              simp [hlt, hlt', h1]
            · rw [Array.getElem?_eq_none hge, Array.getElem?_eq_none (hz ▸ hge)]
          simp [h2]
      simp only [hy]
  unfold opOk at *
  rwa [he, hw] at hk

/-! ### which operation wrote a slot last -/
def wrote (ops : Array Oper) (t : Tmp) (k : Nat) : Bool := (ops[k]?).bind (·.dst) == some t
def lastW (ops : Array Oper) (L : Nat → Bool) (t : Tmp) : Nat → Option Nat
  | 0 => none
  | k + 1 => if L k && wrote ops t k then some k else lastW ops L t k
theorem lastW_congr {L L' : Nat → Bool} {t : Tmp} : ∀ k, (∀ m, m < k → (L m && wrote ops t m) = (L' m && wrote ops t m)) → lastW ops L t k = lastW ops L' t k
  | 0, _ => rfl
  | k + 1, h => by rw [lastW, lastW, h k (by omega), lastW_congr k fun m hm => h m (by omega)]
theorem lastW_below {t : Tmp} {i : Nat} : ∀ n, i ≤ n → lastW ops (fun m => decide (m < i)) t n = lastW ops (fun _ => true) t i
  | 0, h => by
    obtain rfl : i = 0 := by omega
    rfl
  | n + 1, h => by
    rcases Nat.lt_or_ge n i with hn | hn
    · obtain rfl : i = n + 1 := by omega
      exact lastW_congr _ fun m hm => by simp [hm]
    · rw [lastW, show decide (n < i) = false by simp; omega]
      exact lastW_below n hn
theorem lastW_at {L : Nat → Bool} {t : Tmp} {i : Nat} (hi : (L i && wrote ops t i) = true) : ∀ n, i < n → (∀ m, i < m → m < n → (L m && wrote ops t m) = false) → lastW ops L t n = some i
  | 0, h, _ => by omega
  | n + 1, h, hm => by
    rw [lastW]
    rcases Nat.lt_or_ge i n with hn | hn
    · rw [hm n hn (by omega)]
      exact lastW_at hi n hn fun m h1 h2 => hm m h1 (by omega)
    · obtain rfl : i = n := by omega
      rw [if_pos hi]

theorem lastW_lt {L : Nat → Bool} {t : Tmp} {j : Nat} : ∀ k, lastW ops L t k = some j → j < k
  | 0, h => by cases h
  | k + 1, h => by
    rw [lastW] at h
    split at h
    · injection h with h; omega
    · have := lastW_lt k h; omega

def Env (ops : Array Oper) (a0 : Act) (Rs : Nat → Fact) (L : Nat → Bool) (k : Nat) (t : Tmp) : Fact :=
  match lastW ops L t k with
  | some j => Rs j
  | none => fun v _ => v = a0.tmps.getD t undef
theorem env_up {a0 : Act} {Rs : Nat → Fact} {L : Nat → Bool} {k : Nat} {t : Tmp} (hR : ∀ i, UpC (Rs i)) : UpC (Env ops a0 Rs L k t) := by
  unfold Env
  split
  · exact hR _
  · exact upC_eq _

/-! ### the order of the text -/
structure Order (md : Region.Mode) (ops : Array Oper) : Prop where
  sel : ∀ (j : Nat) (o : Oper) cs b, ops[j]? = some o → o.op ≠ .select cs b
  back : ∀ (k : Nat) (o : Oper), ops[k]? = some o → ∀ e ∈ o.after, Region.binds md e = true → e.on < k
  pair : ∀ (i j : Nat) (oi oj : Oper), i < j → ops[i]? = some oi → ops[j]? = some oj → (∃ e ∈ oj.after, Region.binds md e = true ∧ e.on = i) ∨ oi.apart ops oj = true

theorem order_from : ∀ (fuel k : Nat) (listed : Array Bool), listed.size = ops.size → k + fuel = ops.size → (∀ j, j < ops.size → listed.getD j true = decide (j < k)) →
    Region.lexFrom md ops fuel k listed = true →
    (∀ (i : Nat) (o : Oper), k ≤ i → ops[i]? = some o → (∀ e ∈ o.after, Region.binds md e = true → e.on < i) ∧
      ∀ (j : Nat) (oj : Oper), i < j → ops[j]? = some oj → (∃ e ∈ oj.after, Region.binds md e = true ∧ e.on = i) ∨ o.apart ops oj = true)
  | 0, k, listed, hz, hk, hl, h, i, o, hi, ho => by
    have := (Array.getElem?_eq_some_iff.1 ho).1; omega
  | fuel + 1, k, listed, hz, hk, hl, h, i, o, hi, ho => by
    simp only [Region.lexFrom, Bool.and_eq_true] at h
    obtain ⟨⟨hr, hf⟩, hn⟩ := h
    rcases Nat.lt_or_ge k i with hki | hki
    · refine order_from fuel (k + 1) (listed.setIfInBounds k true) (by simpa using hz) (by omega) (fun j hj => ?_) hn i o (by omega) ho
      by_cases hjk : j = k
      · subst hjk; simp [Array.getD, hz, hj]
      · have := hl j hj
        rw [getD_ne _ (Ne.symm hjk), this, Bool.eq_iff_iff]
        simp; omega
    · obtain rfl : i = k := by omega
      have hilt := (Array.getElem?_eq_some_iff.1 ho).1
      obtain ⟨hun, o', ho', hall⟩ := mem_ready.1 (by simpa using hr : i ∈ Region.ready md ops listed)
      obtain rfl : o' = o := by rw [ho] at ho'; injection ho' with h; exact h.symm
      refine ⟨fun e he hb => ?_, fun j oj hij hoj => ?_⟩
      · have h1 := hall e he hb
        rcases Nat.lt_or_ge e.on ops.size with hlt | hge
        · have h2 := hl e.on hlt
          have h3 : listed.getD e.on true = listed.getD e.on false := by simp [Array.getD, hz, hlt]
          rw [h3, h1] at h2
          simpa using h2.symm
        · simp [Array.getD, hz, show ¬ e.on < ops.size by omega] at h1
      · have hjlt := (Array.getElem?_eq_some_iff.1 hoj).1
        by_cases hex : ∃ e ∈ oj.after, Region.binds md e = true ∧ e.on = i
        · exact .inl hex
        · refine .inr (Region.free_spec ho hf j oj hoj (by omega) (by rw [hl j hjlt]; simp; omega) fun e he hb heq => hex ⟨e, he, hb, heq⟩)

theorem order_of (h : Region.lexB md ops = true) : Order md ops := by
  simp only [Region.lexB, Bool.and_eq_true] at h
  have key := order_from (md := md) (ops := ops) ops.size 0 (Array.replicate ops.size false) (by simp) (by omega) (fun j hj => by simp [Array.getD, hj]) h.2
  exact ⟨Region.noSelect_spec h.1, fun k o ho => (key k o (Nat.zero_le _) ho).1, fun i j oi oj hij hi hj => (key i oi (Nat.zero_le _) hi).2 j oj hij hj⟩

/-! ### how many are left -/
def un (L : Nat → Bool) : Nat → Nat
  | 0 => 0
  | k + 1 => un L k + if L k then 0 else 1
theorem un_set {L L' : Nat → Bool} {i : Nat} (h0 : L i = false) (h1 : L' i = true) (h : ∀ m, m ≠ i → L' m = L m) : ∀ k, un L' k + (if i < k then 1 else 0) = un L k
  | 0 => by simp [un]
  | k + 1 => by
    have ih := un_set h0 h1 h k
    rw [un, un]
    by_cases hk : k = i
    · subst hk
      rw [h0, h1]
      simp at ih ⊢; omega
    · rw [h k hk]
      have e : (if i < k + 1 then 1 else 0) = (if i < k then 1 else 0 : Nat) := by
        by_cases h1 : i < k
        · rw [if_pos h1, if_pos (by omega)]
        · rw [if_neg h1, if_neg (by omega)]
      rw [e]; omega
theorem un_zero {L : Nat → Bool} : ∀ k, un L k = 0 → ∀ m, m < k → L m = true
  | 0, _, m, hm => by omega
  | k + 1, h, m, hm => by
    rw [un] at h
    rcases Nat.lt_or_ge m k with hlt | hge
    · exact un_zero k (by omega) m hlt
    · obtain rfl : m = k := by omega
      by_cases hL : L m = true
      · exact hL
      · rw [if_neg hL] at h; omega
theorem first_un {L : Nat → Bool} : ∀ k, (∃ m, m < k ∧ L m = false) → ∃ m, m < k ∧ L m = false ∧ ∀ j, j < m → L j = true
  | 0, ⟨m, hm, _⟩ => by omega
  | k + 1, ⟨m, hm, hL⟩ => by
    by_cases hex : ∃ m, m < k ∧ L m = false
    · obtain ⟨m, h1, h2, h3⟩ := first_un k hex
      exact ⟨m, by omega, h2, h3⟩
    · refine ⟨k, by omega, ?_, fun j hj => ?_⟩
      · rcases Nat.lt_or_ge m k with hlt | hge
        · exact absurd ⟨m, hlt, hL⟩ hex
        · obtain rfl : m = k := by omega
          exact hL
      · by_cases h : L j = true
        · exact h
        · exact absurd ⟨j, hj, by simpa using h⟩ hex

/-! ### whatever order is picked -/
structure Inv (md : Region.Mode) (ops : Array Oper) (C : World → Prop) (a0 : Act) (Rs : Nat → Fact) (listed : Array Bool) (a : Act) (w : World) : Prop where
  size : listed.size = ops.size
  down : ∀ (i : Nat) (o : Oper), ops[i]? = some o → listed.getD i false = true → ∀ e ∈ o.after, Region.binds md e = true → listed.getD e.on false = true
  cls : C w
  tmps : a.tmps.size = a0.tmps.size
  defs : a.defers = a0.defers
  env : ∀ t, Env ops a0 Rs (fun i => listed.getD i false) ops.size t (a.tmps.getD t undef) w

variable {C : World → Prop} {a0 : Act} {Rs : Nat → Fact} {Q : Exit → Act → World → Prop}

theorem wrote_iff {t : Tmp} {k : Nat} : wrote ops t k = true ↔ ∃ o, ops[k]? = some o ∧ o.dst = some t := by
  unfold wrote
  cases h : ops[k]? with
  | none => simp
  | some o => simp

theorem not_apart_dst {x y : Oper} {t : Tmp} (hx : x.dst = some t) (hy : y.dst = some t) : x.apart ops y = false := by
  simp [Oper.apart, hx, hy]
theorem not_apart_look {x y : Oper} {t : Tmp} (hx : x.dst = some t) (hy : t ∈ y.looksAt ops) : x.apart ops y = false := by
  simp [Oper.apart, hx, hy]
theorem not_apart_look' {x y : Oper} {t : Tmp} (hx : t ∈ x.looksAt ops) (hy : y.dst = some t) : x.apart ops y = false := by
  simp [Oper.apart, hy, hx]

theorem wpAny_lex (ho : Order md ops) (hC : ∀ w w', Up w w' → C w → C w') (hR : ∀ i, UpC (Rs i)) (hd : ∀ (k : Nat) (o : Oper) d, ops[k]? = some o → o.dst = some d → d < a0.tmps.size)
    (hob : ∀ (i : Nat) (o : Oper), ops[i]? = some o → ∀ a w, C w → a.tmps.size = a0.tmps.size → (∀ t ∈ o.looksAt ops, Env ops a0 Rs (fun _ => true) i t (a.tmps.getD t undef) w) → opOk P ops o a w (Rs i))
    (hQ : ∀ a w, C w → a.tmps.size = a0.tmps.size → a.defers = a0.defers → (∀ t, Env ops a0 Rs (fun _ => true) ops.size t (a.tmps.getD t undef) w) → Q .normal a w) :
    ∀ (fuel : Nat) (listed : Array Bool) (a : Act) (w : World), un (fun i => listed.getD i false) ops.size ≤ fuel → Inv md ops C a0 Rs listed a w → wpAny P md ops Q fuel listed a w := by
  have fin : ∀ (listed : Array Bool) (a : Act) (w : World), (∀ m, m < ops.size → listed.getD m false = true) → Inv md ops C a0 Rs listed a w → Q .normal a w := fun listed a w hall hI => by
    refine hQ a w hI.cls hI.tmps hI.defs fun t => ?_
    have := hI.env t
    unfold Env at this ⊢
    rwa [lastW_congr (L := fun i => listed.getD i false) (L' := fun _ => true) ops.size (fun m hm => by rw [hall m hm])] at this
  have rdy : ∀ (listed : Array Bool) (a : Act) (w : World), Inv md ops C a0 Rs listed a w → Region.ready md ops listed = [] → ∀ m, m < ops.size → listed.getD m false = true := fun listed a w hI hr m hm => by
    by_cases hL : listed.getD m false = true
    · exact hL
    · obtain ⟨k, hk, hkL, hkb⟩ := first_un (L := fun i => listed.getD i false) ops.size ⟨m, hm, by simpa using hL⟩
      have hmem : k ∈ Region.ready md ops listed := by
        refine mem_ready.2 ⟨?_, ops[k], by simp [hk], fun e he hb => hkb _ (ho.back k ops[k] (by simp [hk]) e he hb)⟩
        simp [Array.getD, hI.size, hk] at hkL ⊢; exact hkL
      rw [hr] at hmem; cases hmem
  intro fuel
  induction fuel with
  | zero =>
    intro listed a w hf hI
    have hall := un_zero ops.size (Nat.le_zero.1 hf)
    refine ⟨?_, fin listed a w hall hI⟩
    apply List.eq_nil_iff_forall_not_mem.2
    intro i hi
    obtain ⟨hun, o, hoi, _⟩ := mem_ready.1 hi
    have hlt := (Array.getElem?_eq_some_iff.1 hoi).1
    have := hall i hlt
    simp [Array.getD, hI.size, hlt] at hun this
    rw [hun] at this; cases this
  | succ fuel ih =>
    intro listed a w hf hI
    refine ⟨fun hr => fin listed a w (rdy listed a w hI hr) hI, fun i hi => ?_⟩
    obtain ⟨hun, o, hoi, hall⟩ := mem_ready.1 hi
    have hlt := (Array.getElem?_eq_some_iff.1 hoi).1
    have hunf : listed.getD i false = false := by simp [Array.getD, hI.size, hlt] at hun ⊢; exact hun
    have hset : ∀ m, (listed.setIfInBounds i true).getD m false = if m = i then true else listed.getD m false := fun m => by
      by_cases hm : m = i
      · subst hm; simp [Array.getD, hI.size, hlt]
      · rw [if_neg hm]
        exact getD_ne _ (Ne.symm hm)
    -- what it looks at was written by what stands ahead of it
    have hlook : ∀ t ∈ o.looksAt ops, Env ops a0 Rs (fun _ => true) i t (a.tmps.getD t undef) w := fun t ht => by
      have h := hI.env t
      unfold Env at h ⊢
      have e : lastW ops (fun i => listed.getD i false) t ops.size = lastW ops (fun _ => true) t i := by
        rw [← lastW_below ops.size (Nat.le_of_lt hlt)]
        refine lastW_congr _ fun m hm => ?_
        by_cases hw : wrote ops t m = true
        · obtain ⟨om, hom, hdm⟩ := wrote_iff.1 hw
          rw [hw, Bool.and_true, Bool.and_true]
          rcases Nat.lt_trichotomy m i with hmi | hmi | hmi
          · rw [decide_eq_true hmi]
            rcases ho.pair m i om o hmi hom hoi with ⟨e, he, hb, heq⟩ | hap
            · rw [← heq]; exact hall e he hb
            · rw [not_apart_look hdm ht] at hap; cases hap
          · subst hmi; rw [hunf]; simp
          · rw [show decide (m < i) = false by simp; omega]
            by_cases hL : listed.getD m false = true
            · rcases ho.pair i m o om hmi hoi hom with ⟨e, he, hb, heq⟩ | hap
              · have := hI.down m om hom hL e he hb
                rw [heq, hunf] at this; cases this
              · rw [not_apart_look' ht hdm] at hap; cases hap
            · simpa using hL
        · simp [hw]
      rwa [e] at h
    refine wpOp_of_ok hoi (hob i o hoi a w hI.cls hI.tmps hlook) fun v w' hup hRv => ?_
    refine ih _ _ _ ?_ ?_
    · have := un_set (L := fun i => listed.getD i false) (L' := fun m => (listed.setIfInBounds i true).getD m false) hunf (by simp [hset]) (fun m hm => by simp [hset, hm]) ops.size
      rw [if_pos hlt] at this; omega
    · refine ⟨by simpa using hI.size, fun k ok hk hL e he hb => ?_, hC _ _ hup hI.cls, ?_, ?_, fun t => ?_⟩
      · rw [hset] at hL ⊢
        split
        · rfl
        · by_cases hki : k = i
          · subst hki
            obtain rfl : ok = o := by rw [hoi] at hk; injection hk with h; exact h.symm
            exact hall e he hb
          · rw [if_neg hki] at hL
            exact hI.down k ok hk hL e he hb
      · cases hdo : o.dst <;> simp [Act.put, hI.tmps]
      · cases hdo : o.dst <;> simp [Act.put, hI.defs]
      · by_cases hdt : o.dst = some t
        · have hw : wrote ops t i = true := wrote_iff.2 ⟨o, hoi, hdt⟩
          have e : lastW ops (fun m => (listed.setIfInBounds i true).getD m false) t ops.size = some i := by
            refine lastW_at (by simp [hset, hw]) _ hlt fun m h1 h2 => ?_
            by_cases hwm : wrote ops t m = true
            · obtain ⟨om, hom, hdm⟩ := wrote_iff.1 hwm
              rw [hwm, Bool.and_true, hset, if_neg (by omega)]
              by_cases hL : listed.getD m false = true
              · rcases ho.pair i m o om h1 hoi hom with ⟨e, he, hb, heq⟩ | hap
                · have := hI.down m om hom hL e he hb
                  rw [heq, hunf] at this; cases this
                · rw [not_apart_dst hdt hdm] at hap; cases hap
              · simpa using hL
            · simp [hwm]
          unfold Env
          rw [e]
          have hlt2 : t < a.tmps.size := by rw [hI.tmps]; exact hd i o t hoi hdt
          have hg : (a.put o.dst v).tmps.getD t undef = v := by rw [hdt]; simp [Act.put, Array.getD, hlt2]
          rw [hg]
          exact hRv
        · have h := hI.env t
          have e : lastW ops (fun m => (listed.setIfInBounds i true).getD m false) t ops.size = lastW ops (fun m => listed.getD m false) t ops.size := by
            refine lastW_congr _ fun m hm => ?_
            by_cases hmi : m = i
            · subst hmi
              have : wrote ops t m = false := by
                rw [Bool.eq_false_iff]; intro hw
                obtain ⟨om, hom, hdm⟩ := wrote_iff.1 hw
                rw [hoi] at hom; injection hom with hom; subst hom
                exact hdt hdm
              simp [this]
            · simp [hset, hmi]
          have hg : (a.put o.dst v).tmps.getD t undef = a.tmps.getD t undef := by
            cases hdo : o.dst with
            | none => rfl
            | some d =>
              have hne : d ≠ t := fun h => hdt (by rw [hdo, h])
              exact getD_ne _ hne
          rw [hg]
          have h2 := env_up (ops := ops) (a0 := a0) (L := fun i => listed.getD i false) (k := ops.size) (t := t) hR _ _ _ hup h
          unfold Env at h2 ⊢
          rwa [e]

/-! ### the walk of the text: the frame is written out; what an operation may make is a fact on its slot, aside -/
abbrev Dirt := List (Tmp × Fact)
/-- Whatever stands in those slots, if their facts hold. -/
def fill (D : Dirt) (w : World) (K : Act → Prop) (a : Act) : Prop :=
  match D with
  | [] => K a
  | (t, R) :: D => ∀ v, R v w → fill D w K (a.put (some t) v)
def looked (ops : Array Oper) (o : Oper) (D : Dirt) : Dirt := D.filter fun p => (o.looksAt ops).contains p.1
def wiped (o : Oper) (D : Dirt) : Dirt := D.filter fun p => o.dst != some p.1

/-- The walk: l: what is left of the text. -/
def wpLex (P : Program) (ops : Array Oper) (C : World → Prop) (Q : Exit → Act → World → Prop) : List Oper → Act → Dirt → Prop
  | [], a, D => ∀ w, C w → fill D w (fun a' => Q .normal a' w) a
  | o :: l, a, D =>
    (∃ c, (∀ w, C w → fill (looked ops o D) w (fun a' => opOk P ops o a' w fun v _ => v = c) a) ∧ wpLex P ops C Q l (a.put o.dst c) (wiped o D)) ∨
    (∃ t R, o.dst = some t ∧ UpC R ∧ (∀ w, C w → fill (looked ops o D) w (fun a' => opOk P ops o a' w R) a) ∧ wpLex P ops C Q l a ((t, R) :: wiped o D))
theorem lex_nil {D : Dirt} {a : Act} (h : ∀ w, C w → fill D w (fun a' => Q .normal a' w) a) : wpLex P ops C Q [] a D := h
/-- An operation whose value is known. -/
theorem lex_is {o : Oper} {l : List Oper} {D : Dirt} {a : Act} (c : Value) (h : ∀ w, C w → fill (looked ops o D) w (fun a' => opOk P ops o a' w fun v _ => v = c) a)
    (k : wpLex P ops C Q l (a.put o.dst c) (wiped o D)) : wpLex P ops C Q (o :: l) a D := .inl ⟨c, h, k⟩
/-- One of whose value a fact is known. -/
theorem lex_has {o : Oper} {l : List Oper} {D : Dirt} {a : Act} (t : Tmp) (R : Fact) (ht : o.dst = some t) (hR : UpC R) (h : ∀ w, C w → fill (looked ops o D) w (fun a' => opOk P ops o a' w R) a)
    (k : wpLex P ops C Q l a ((t, R) :: wiped o D)) : wpLex P ops C Q (o :: l) a D := .inr ⟨t, R, ht, hR, h, k⟩

/-- One that hangs on no dirt, and that is not wanted. -/
theorem lex_skip {o : Oper} {l : List Oper} {D : Dirt} {a : Act} (hl : looked ops o D = []) (hw : Region.wanted o (yielded ops a.tmps) = false)
    (hD : wiped o D = D) (k : wpLex P ops C Q l (a.put o.dst undef) D) : wpLex P ops C Q (o :: l) a D :=
  lex_is undef (fun w _ => by rw [hl]; show opOk P ops o a w _; unfold opOk; rw [hw]; rfl) (by rw [hD]; exact k)
/-- One that hangs on no dirt, and yields one value in each world. -/
theorem lex_pure {o : Oper} {l : List Oper} {D : Dirt} {a : Act} {c : Value} (hl : looked ops o D = []) (hw : Region.wanted o (yielded ops a.tmps) = true)
    (h : ∀ w, C w → (execOp a.eval o).run P w = .ok (.value c) w) (hD : wiped o D = D) (k : wpLex P ops C Q l (a.put o.dst c) D) : wpLex P ops C Q (o :: l) a D :=
  lex_is c (fun w hC => by rw [hl]; show opOk P ops o a w _; unfold opOk; rw [hw, if_pos rfl, h w hC]; exact ⟨Up.refl w, rfl⟩) (by rw [hD]; exact k)
/-- A call that hangs on no dirt. -/
theorem lex_call {o : Oper} {l : List Oper} {D : Dirt} {a : Act} {f : FuncId} {args : Array Value} (t : Tmp) (R : Fact) (hl : looked ops o D = []) (hw : Region.wanted o (yielded ops a.tmps) = true) (ht : o.dst = some t) (hR : UpC R)
    (h : ∀ w, (execOp a.eval o).run P w = .ok (.enter f args) w) (hc : ∀ w, C w → Calls P f args w fun e w' => ∃ v, e = .returned v ∧ Up w w' ∧ R v w')
    (hD : wiped o D = D) (k : wpLex P ops C Q l a ((t, R) :: D)) : wpLex P ops C Q (o :: l) a D :=
  lex_has t R ht hR (fun w hC => by rw [hl]; show opOk P ops o a w _; unfold opOk; rw [hw, if_pos rfl, h w]; exact ⟨Up.refl w, hc w hC⟩) (by rw [hD]; exact k)
/-- A call that hangs on no dirt, and yields one value. -/
theorem lex_callv {o : Oper} {l : List Oper} {D : Dirt} {a : Act} {f : FuncId} {args : Array Value} (c : Value) (hl : looked ops o D = []) (hw : Region.wanted o (yielded ops a.tmps) = true)
    (h : ∀ w, (execOp a.eval o).run P w = .ok (.enter f args) w) (hc : ∀ w, C w → Calls P f args w fun e w' => e = .returned c ∧ Up w w')
    (hD : wiped o D = D) (k : wpLex P ops C Q l (a.put o.dst c) D) : wpLex P ops C Q (o :: l) a D :=
  lex_is c (fun w hC => by rw [hl]; show opOk P ops o a w _; unfold opOk; rw [hw, if_pos rfl, h w]; exact ⟨Up.refl w, (hc w hC).mono fun e w' he => ⟨c, he.1, he.2, rfl⟩⟩) (by rw [hD]; exact k)
/-- One that hangs on one slot of which a fact is known, and yields one value. -/
theorem lex_of {o : Oper} {l : List Oper} {D : Dirt} {a : Act} {c : Value} {t : Tmp} {R : Fact} (hl : looked ops o D = [(t, R)]) (hw : ∀ v, Region.wanted o (yielded ops (a.put (some t) v).tmps) = true)
    (h : ∀ w, C w → ∀ v, R v w → (execOp (a.put (some t) v).eval o).run P w = .ok (.value c) w) (hD : wiped o D = D) (k : wpLex P ops C Q l (a.put o.dst c) D) : wpLex P ops C Q (o :: l) a D :=
  lex_is c (fun w hC => by rw [hl]; intro v hv; show opOk P ops o _ w _; unfold opOk; rw [hw, if_pos rfl, h w hC v hv]; exact ⟨Up.refl w, rfl⟩) (by rw [hD]; exact k)

/-- One that makes memory: of its value a fact is known. -/
theorem lex_make {o : Oper} {l : List Oper} {D : Dirt} {a : Act} {v : World → Value} {f : World → World} (t : Tmp) (R : Fact) (hl : looked ops o D = []) (hw : Region.wanted o (yielded ops a.tmps) = true) (ht : o.dst = some t) (hR : UpC R)
    (h : ∀ w, C w → (execOp a.eval o).run P w = .ok (.value (v w)) (f w)) (hf : ∀ w, C w → Up w (f w) ∧ R (v w) (f w)) (hD : wiped o D = D) (k : wpLex P ops C Q l a ((t, R) :: D)) : wpLex P ops C Q (o :: l) a D :=
  lex_has t R ht hR (fun w hC => by rw [hl]; show opOk P ops o a w _; unfold opOk; rw [hw, if_pos rfl, h w hC]; exact hf w hC) (by rw [hD]; exact k)
/-- A call that hangs on one slot of which a fact is known, and yields one value. -/
theorem lex_callof {o : Oper} {l : List Oper} {D : Dirt} {a : Act} {f : FuncId} {args : Value → Array Value} {t : Tmp} {R : Fact} (c : Value) (hl : looked ops o D = [(t, R)]) (hw : ∀ v, Region.wanted o (yielded ops (a.put (some t) v).tmps) = true)
    (h : ∀ v w, (execOp (a.put (some t) v).eval o).run P w = .ok (.enter f (args v)) w) (hc : ∀ w, C w → ∀ v, R v w → Calls P f (args v) w fun e w' => e = .returned c ∧ Up w w')
    (hD : wiped o D = D) (k : wpLex P ops C Q l (a.put o.dst c) D) : wpLex P ops C Q (o :: l) a D :=
  lex_is c (fun w hC => by rw [hl]; intro v hv; show opOk P ops o _ w _; unfold opOk; rw [hw, if_pos rfl, h v w]; exact ⟨Up.refl w, (hc w hC v hv).mono fun e w' he => ⟨c, he.1, he.2, rfl⟩⟩) (by rw [hD]; exact k)

/-- The facts of a frame with dirt. -/
def factAt (D : Dirt) (a : Act) (t : Tmp) : Fact :=
  match D.find? (fun p => p.1 == t) with
  | some p => p.2
  | none => fun v _ => v = a.tmps.getD t undef

theorem put_size (a : Act) (d : Option Tmp) (v : Value) : (a.put d v).tmps.size = a.tmps.size := by cases d <;> simp [Act.put]
theorem put_defs (a : Act) (d : Option Tmp) (v : Value) : (a.put d v).defers = a.defers := by cases d <;> simp [Act.put]
theorem put_get (a : Act) (d t : Tmp) (v : Value) (h : d < a.tmps.size) : (a.put (some d) v).tmps.getD t undef = if d = t then v else a.tmps.getD t undef := by
  by_cases hdt : d = t
  · subst hdt; simp [Act.put, Array.getD, h]
  · rw [if_neg hdt]; exact getD_ne _ hdt

/-- 'fill' at the values of a frame b that bears the facts. -/
theorem fill_use : ∀ (D : Dirt) {w : World} {K : Act → Prop} {a b : Act}, (∀ p ∈ D, p.1 < a.tmps.size) → (∀ p ∈ D, p.2 (b.tmps.getD p.1 undef) w) → fill D w K a →
    ∃ a', K a' ∧ a'.tmps.size = a.tmps.size ∧ a'.defers = a.defers ∧ ∀ t, a'.tmps.getD t undef = if (D.any fun p => p.1 == t) then b.tmps.getD t undef else a.tmps.getD t undef
  | [], w, K, a, b, _, _, h => ⟨a, h, rfl, rfl, fun t => by simp⟩
  | (t, R) :: D, w, K, a, b, hs, hb, h => by
    have h1 := h (b.tmps.getD t undef) (hb (t, R) (by simp))
    obtain ⟨a', k1, k2, k3, k4⟩ := fill_use D (b := b) (fun p hp => by rw [put_size]; exact hs p (by simp [hp])) (fun p hp => hb p (by simp [hp])) h1
    refine ⟨a', k1, by rw [k2, put_size], by rw [k3, put_defs], fun s => ?_⟩
    rw [k4 s, put_get _ _ _ _ (hs (t, R) (by simp))]
    by_cases hD : (D.any fun p => p.1 == s) = true
    · simp [hD]
    · rw [if_neg hD]
      by_cases hts : t = s
      · subst hts; simp
      · simp [hts, hD]

theorem find_filter {D : Dirt} {f : Tmp × Fact → Bool} {t : Tmp} (hf : ∀ p, p.1 = t → f p = true) : (D.filter f).find? (fun p => p.1 == t) = D.find? (fun p => p.1 == t) := by
  induction D with
  | nil => rfl
  | cons p D ih =>
    by_cases hp : p.1 = t
    · rw [List.filter_cons_of_pos (hf p hp), List.find?_cons_of_pos (by simp [hp]), List.find?_cons_of_pos (by simp [hp])]
    · rw [List.find?_cons_of_neg (by simp [hp])]
      by_cases hfp : f p = true
      · rw [List.filter_cons_of_pos hfp, List.find?_cons_of_neg (by simp [hp]), ih]
      · rw [List.filter_cons_of_neg hfp, ih]

/-- No slot twice. -/
def Tidy (D : Dirt) : Prop := D.Pairwise fun p q => p.1 ≠ q.1
theorem Tidy.filter {D : Dirt} (h : Tidy D) (f : Tmp × Fact → Bool) : Tidy (D.filter f) := List.Pairwise.filter f h
theorem Tidy.find {D : Dirt} (h : Tidy D) {p : Tmp × Fact} (hp : p ∈ D) : D.find? (fun q => q.1 == p.1) = some p := by
  induction D with
  | nil => cases hp
  | cons q D ih =>
    unfold Tidy at h
    rw [List.pairwise_cons] at h
    rcases List.mem_cons.1 hp with rfl | hp'
    · rw [List.find?_cons_of_pos (by simp)]
    · rw [List.find?_cons_of_neg (by simp; exact h.1 p hp'), ih h.2 hp']

/-- Out of the walk: a fact for each operation, that holds whatever order. -/
theorem lex_facts (hs : ∀ (j : Nat) (o : Oper) cs b, ops[j]? = some o → o.op ≠ .select cs b) (hd : ∀ (k : Nat) (o : Oper) d, ops[k]? = some o → o.dst = some d → d < a0.tmps.size) :
    ∀ (l : List Oper) (k : Nat) (a : Act) (D : Dirt) (Rs : Nat → Fact), (∀ j, l[j]? = ops[k + j]?) → k + l.length = ops.size → Tidy D → (∀ p ∈ D, p.1 < a0.tmps.size ∧ UpC p.2) →
      a.tmps.size = a0.tmps.size → a.defers = a0.defers → (∀ i, UpC (Rs i)) → (∀ t v w, Env ops a0 Rs (fun _ => true) k t v w → factAt D a t v w) → wpLex P ops C Q l a D →
      ∃ Rs' : Nat → Fact, (∀ i, i < k → Rs' i = Rs i) ∧ (∀ i, UpC (Rs' i)) ∧
        (∀ (i : Nat) (o : Oper), k ≤ i → ops[i]? = some o → ∀ b w, C w → b.tmps.size = a0.tmps.size → (∀ t ∈ o.looksAt ops, Env ops a0 Rs' (fun _ => true) i t (b.tmps.getD t undef) w) → opOk P ops o b w (Rs' i)) ∧
        (∀ b w, C w → b.tmps.size = a0.tmps.size → b.defers = a0.defers → (∀ t, Env ops a0 Rs' (fun _ => true) ops.size t (b.tmps.getD t undef) w) → Q .normal b w)
  | [], k, a, D, Rs, hl, hk, hT, hD, hz, hdf, hR, hE, h => by
    simp at hk
    subst hk
    refine ⟨Rs, fun _ _ => rfl, hR, fun i o hki ho => ?_, fun b w hC hbz hbd hbe => ?_⟩
    · have := (Array.getElem?_eq_some_iff.1 ho).1; omega
    · obtain ⟨a', hQ', ha1, ha2, ha3⟩ := fill_use D (b := b) (fun p hp => by rw [hz]; exact (hD p hp).1)
        (fun p hp => by have := hE p.1 _ w (hbe p.1); unfold factAt at this; rwa [hT.find hp] at this) (h w hC)
      have e : a' = b := by
        have ht : a'.tmps = b.tmps := by
          apply Array.ext (by rw [ha1, hz, hbz])
          intro i h1 h2
          have h3 := ha3 i
          have h4 : a'.tmps.getD i undef = b.tmps.getD i undef := by
            by_cases hany : (D.any fun p => p.1 == i) = true
            · rw [h3, if_pos hany]
            · rw [h3, if_neg hany]
              have h5 := hE i _ w (hbe i)
              unfold factAt at h5
              have : D.find? (fun p => p.1 == i) = none := by
                rw [List.find?_eq_none]
                intro p hp hpi
                exact hany (List.any_eq_true.2 ⟨p, hp, hpi⟩)
              rw [this] at h5
              exact h5.symm
          simpa [Array.getD, h1, h2] using h4
        have hdd : a'.defers = b.defers := by rw [ha2, hdf, hbd]
        cases a'; cases b
        simp at ht hdd
        simp [ht, hdd]
      rwa [e] at hQ'
  | o :: l, k, a, D, Rs, hl, hk, hT, hD, hz, hdf, hR, hE, h => by
    have hok : ops[k]? = some o := by simpa using (hl 0).symm
    have hlt := (Array.getElem?_eq_some_iff.1 hok).1
    have hl' : ∀ j, l[j]? = ops[k + 1 + j]? := fun j => by have := hl (j + 1); simpa [Nat.add_assoc, Nat.add_comm 1 j] using this
    have hk' : k + 1 + l.length = ops.size := by simp at hk; omega
    have step : ∀ (R : Fact) (a1 : Act) (D1 : Dirt), UpC R → (∀ w, C w → fill (looked ops o D) w (fun a' => opOk P ops o a' w R) a) → Tidy D1 → (∀ p ∈ D1, p.1 < a0.tmps.size ∧ UpC p.2) →
        a1.tmps.size = a0.tmps.size → a1.defers = a0.defers → (∀ t, o.dst ≠ some t → ∀ v w, factAt D a t v w → factAt D1 a1 t v w) → (∀ t, o.dst = some t → ∀ v w, R v w → factAt D1 a1 t v w) →
        wpLex P ops C Q l a1 D1 →
        ∃ Rs' : Nat → Fact, (∀ i, i < k → Rs' i = Rs i) ∧ (∀ i, UpC (Rs' i)) ∧
          (∀ (i : Nat) (o : Oper), k ≤ i → ops[i]? = some o → ∀ b w, C w → b.tmps.size = a0.tmps.size → (∀ t ∈ o.looksAt ops, Env ops a0 Rs' (fun _ => true) i t (b.tmps.getD t undef) w) → opOk P ops o b w (Rs' i)) ∧
          (∀ b w, C w → b.tmps.size = a0.tmps.size → b.defers = a0.defers → (∀ t, Env ops a0 Rs' (fun _ => true) ops.size t (b.tmps.getD t undef) w) → Q .normal b w) := by
      intro R a1 D1 hRu hfill hT1 hD1 hz1 hd1 hkeep hnew hrest
      have hlast : ∀ (Rs1 : Nat → Fact) (t : Tmp), (∀ i, i < k → Rs1 i = Rs i) → Env ops a0 Rs1 (fun _ => true) k t = Env ops a0 Rs (fun _ => true) k t := fun Rs1 t he => by
        unfold Env
        cases hw : lastW ops (fun _ => true) t k with
        | none => rfl
        | some j => simp only []; exact he j (lastW_lt k hw)
      obtain ⟨Rs', e1, e2, e3, e4⟩ := lex_facts hs hd l (k + 1) a1 D1 (fun i => if i = k then R else Rs i) hl' hk' hT1 hD1 hz1 hd1
        (fun i => by by_cases hi : i = k <;> simp [hi, hRu, hR]) (fun t v w hEnv => by
          unfold Env at hEnv
          rw [lastW] at hEnv
          by_cases hdt : o.dst = some t
          · rw [if_pos (by simp [wrote, hok, hdt])] at hEnv
            simp at hEnv
            exact hnew t hdt v w hEnv
          · rw [if_neg (by simp [wrote, hok, hdt])] at hEnv
            refine hkeep t hdt v w (hE t v w ?_)
            have := hlast (fun i => if i = k then R else Rs i) t (fun i hi => by simp [show i ≠ k by omega])
            rw [← this]
            exact hEnv) hrest
      refine ⟨Rs', fun i hi => by rw [e1 i (by omega)]; simp [show i ≠ k by omega], e2, fun i o' hki hoi b w hC hbz hbe => ?_, e4⟩
      rcases Nat.lt_or_ge k i with hlt' | hge
      · exact e3 i o' hlt' hoi b w hC hbz hbe
      · obtain rfl : i = k := by omega
        obtain rfl : o' = o := by rw [hok] at hoi; injection hoi with h; exact h.symm
        have hRi : Rs' i = R := by rw [e1 i (by omega)]; simp
        rw [hRi]
        have hfac : ∀ t ∈ o'.looksAt ops, factAt D a t (b.tmps.getD t undef) w := fun t ht => hE t _ w (by
          have := hbe t ht
          rwa [hlast Rs' t (fun j hj => by rw [e1 j (by omega)]; simp [show j ≠ i by omega])] at this)
        obtain ⟨a', k1, k2, k3, k4⟩ := fill_use (looked ops o' D) (b := b) (fun p hp => by rw [hz]; exact (hD p (List.mem_filter.1 hp).1).1)
          (fun p hp => by
            obtain ⟨hp1, hp2⟩ := List.mem_filter.1 hp
            have := hfac p.1 (by simpa using hp2)
            unfold factAt at this
            rwa [hT.find hp1] at this) (hfill w hC)
        refine opOk_congr (hs i o' · · hok) (by rw [k2, hz, hbz]) (fun t ht => ?_) k1
        rw [k4 t]
        split
        · rfl
        · rename_i hany
          have h5 := hfac t ht
          unfold factAt at h5
          have : D.find? (fun p => p.1 == t) = none := by
            rw [List.find?_eq_none]
            intro p hp hpi
            have hpt : p.1 = t := by simpa using hpi
            exact hany (List.any_eq_true.2 ⟨p, List.mem_filter.2 ⟨hp, by rw [hpt]; simpa using ht⟩, hpi⟩)
          rw [this] at h5
          exact h5.symm
    have hwT : Tidy (wiped o D) := hT.filter _
    have hwD : ∀ p ∈ wiped o D, p.1 < a0.tmps.size ∧ UpC p.2 := fun p hp => hD p (List.mem_filter.1 hp).1
    have hwf : ∀ t, o.dst ≠ some t → (wiped o D).find? (fun p => p.1 == t) = D.find? (fun p => p.1 == t) := fun t ht => find_filter fun p hp => by simp [hp]; exact ht
    rcases h with ⟨c, hf, hr⟩ | ⟨t0, R, ht0, hRu, hf, hr⟩
    · refine step (fun v _ => v = c) _ _ (upC_eq c) hf hwT hwD (by rw [put_size, hz]) (by rw [put_defs, hdf]) (fun t ht v w hfa => ?_) (fun t ht v w hv => ?_) hr
      · unfold factAt at hfa ⊢
        rw [hwf t ht]
        cases hp : D.find? (fun p => p.1 == t) with
        | some p => rw [hp] at hfa; exact hfa
        | none =>
          rw [hp] at hfa
          have hfa' : v = a.tmps.getD t undef := hfa
          show v = (a.put o.dst c).tmps.getD t undef
          cases hdo : o.dst with
          | none => simpa [Act.put] using hfa'
          | some d =>
            have hne : d ≠ t := fun e => ht (by rw [hdo, e])
            have : (a.put (some d) c).tmps.getD t undef = a.tmps.getD t undef := getD_ne _ hne
            rw [this]; exact hfa'
      · unfold factAt
        have hn : (wiped o D).find? (fun p => p.1 == t) = none := by
          rw [List.find?_eq_none]
          intro p hp hpt
          have := (List.mem_filter.1 hp).2
          simp at this hpt
          exact this (by rw [ht, hpt])
        rw [hn]
        have hlt2 : t < a.tmps.size := by rw [hz]; exact hd k o t hok ht
        show v = (a.put o.dst c).tmps.getD t undef
        rw [ht, put_get _ _ _ _ hlt2, if_pos rfl]; exact hv
    · refine step R a ((t0, R) :: wiped o D) hRu hf ?_ ?_ hz hdf (fun t ht v w hfa => ?_) (fun t ht v w hv => ?_) hr
      · unfold Tidy
        rw [List.pairwise_cons]
        refine ⟨fun p hp => ?_, hwT⟩
        have := (List.mem_filter.1 hp).2
        simp [ht0] at this
        exact this
      · intro p hp
        rcases List.mem_cons.1 hp with rfl | hp
        · exact ⟨hd k o t0 hok ht0, hRu⟩
        · exact hwD p hp
      · have hne : t0 ≠ t := fun e => ht (by rw [ht0, e])
        unfold factAt at hfa ⊢
        rw [List.find?_cons_of_neg (by simpa using hne), hwf t ht]
        exact hfa
      · obtain rfl : t0 = t := by rw [ht0] at ht; injection ht
        unfold factAt
        rw [List.find?_cons_of_pos (by simp)]
        exact hv

/-- THE LAW: a region that draws its order goes by the walk of its text. -/
theorem wp_region_lex {id : Nat} {l : List Oper} {a : Act} {w : World} (hm : P.follows .mixedOrders = true) (hB : Region.lexB .any l.toArray = true)
    (hd : (l.all fun o => match o.dst with | some d => decide (d < a.tmps.size) | none => true) = true)
    (h : wpLex P l.toArray (Up w) Q l a []) : (Code.region id l.toArray true).wp P Q a w := by
  have ho := order_of hB
  have hd' : ∀ (k : Nat) (o : Oper) d, l.toArray[k]? = some o → o.dst = some d → d < a.tmps.size := fun k o d hk hod => by
    have := List.all_eq_true.1 hd o (List.mem_of_getElem? (by simpa using hk))
    rw [hod] at this; simpa using this
  obtain ⟨Rs, _, hR, hob, hQ⟩ := lex_facts (C := Up w) (Q := Q) (P := P) (a0 := a) ho.sel hd' l 0 a [] (fun _ _ _ => True) (by simp) (by simp) List.Pairwise.nil (fun p hp => by cases hp) rfl rfl (fun _ _ _ _ _ _ => trivial)
    (fun t v w h => h) h
  refine wp_region_any hm ?_
  refine wpAny_lex (C := Up w) (a0 := a) (Rs := Rs) ho (fun w1 w2 h1 h2 => h2.trans h1) hR hd' (fun i o hi => hob i o (Nat.zero_le _) hi) hQ _ _ _ _ ?_ ⟨by simp, fun i o hi hL => ?_, Up.drew w, rfl, rfl, fun t => ?_⟩
  · have : ∀ k, un (fun i => (Array.replicate l.toArray.size false).getD i false) k ≤ k := fun k => by
      induction k with
      | zero => simp [un]
      | succ k ih => rw [un]; split <;> omega
    exact this _
  · exfalso
    have : (Array.replicate l.toArray.size false).getD i false = false := by
      rw [Array.getD_eq_getD_getElem?, Array.getElem?_replicate]; split <;> rfl
    rw [this] at hL; cases hL
  · have hn : lastW l.toArray (fun i => (Array.replicate l.toArray.size false).getD i false) t l.toArray.size = none := by
      have : ∀ k, lastW l.toArray (fun i => (Array.replicate l.toArray.size false).getD i false) t k = none := fun k => by
        induction k with
        | zero => rfl
        | succ k ih =>
          rw [lastW, if_neg, ih]
          have : (Array.replicate l.toArray.size false).getD k false = false := by
            rw [Array.getD_eq_getD_getElem?, Array.getElem?_replicate]; split <;> rfl
          rw [this]; simp
      exact this _
    unfold Env
    rw [hn]
end
end Lex
end Go.Proofs.Ytolpfchnfhdhkaa
