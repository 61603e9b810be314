/-
  Regions whose order is drawn, whose operations may make memory, but for some at the end, which may write: one walk in the order of the text.
-/
import Derived.Test.YthgfbnkggdlokaaLex
import Derived.StillTail
namespace Go.Proofs.Ythgfbnkggdlokaa
open Go.RowKit
set_option maxRecDepth 100000
namespace Lex
section
variable {P : Program} {ops : Array Oper} {md : Region.Mode}
variable {C : World → Prop} {a0 : Act} {Rs : Nat → Fact} {Q : Exit → Act → World → Prop}
theorem un_all {L : Nat → Bool} : ∀ k, (∀ m, m < k → L m = true) → un L k = 0
  | 0, _ => rfl
  | k + 1, h => by rw [un, un_all k fun m hm => h m (by omega), h k (by omega)]; rfl
theorem wpAny_lex_tail {n g : Nat} (ho : Order md ops) (hs : Region.sinkB md ops n = true) (hc : Region.chainB md ops n = true) (hn : n < ops.size) (hC : ∀ w w', Up w w' → C w → C w') (hR : ∀ i, UpC (Rs i)) (hd : ∀ (k : Nat) (o : Oper) d, ops[k]? = some o → o.dst = some d → d < a0.tmps.size)
    (hob : ∀ (i : Nat) (o : Oper), i < n → ops[i]? = some o → ∀ a w, C w → a.tmps.size = a0.tmps.size → (∀ t ∈ o.looksAt ops, Env ops a0 Rs (fun _ => true) i t (a.tmps.getD t undef) w) → opOk P ops o a w (Rs i))
    (hQ : ∀ listed a w, C w → a.tmps.size = a0.tmps.size → a.defers = a0.defers → (∀ t, Env ops a0 Rs (fun _ => true) n t (a.tmps.getD t undef) w) → listed.size = ops.size → (∀ m, m < ops.size → listed.getD m false = decide (m < n)) → wpAny P md ops Q g listed a w) :
    ∀ (fuel : Nat) (listed : Array Bool) (a : Act) (w : World), un (fun i => listed.getD i false) n = fuel → HeadInv md ops n listed → Inv md ops C a0 Rs listed a w → wpAny P md ops Q (fuel + g) listed a w := by
  intro fuel
  induction fuel with
  | zero =>
    intro listed a w hf inv hI
    have hall : ∀ m, m < ops.size → listed.getD m false = decide (m < n) := fun m hm => by
      rcases Nat.lt_or_ge m n with h | h
      · rw [decide_eq_true h]; exact un_zero n hf m h
      · rw [show decide (m < n) = false by simp; omega]; exact getD_both (inv.tail m h hm)
    rw [Nat.zero_add]
    refine hQ listed a w hI.cls hI.tmps hI.defs (fun t => ?_) hI.size hall
    have := hI.env t
    unfold Env at this ⊢
    rwa [lastW_congr (L := fun i => listed.getD i false) (L' := fun m => decide (m < n)) ops.size (fun m hm => by rw [hall m hm]), lastW_below ops.size (Nat.le_of_lt hn)] at this
  | succ fuel ih =>
    intro listed a w hf inv hI
    have hex : ∃ m, m < n ∧ listed.getD m false = false := by
      by_cases h : ∃ m, m < n ∧ listed.getD m false = false
      · exact h
      · have := un_all (L := fun i => listed.getD i false) n fun m hm => by
          by_cases h2 : listed.getD m false = true
          · exact h2
          · exact absurd ⟨m, hm, by simpa using h2⟩ h
        omega
    obtain ⟨m0, hm0, hmL, hmb⟩ := first_un (L := fun i => listed.getD i false) n hex
    have hm0s : m0 < ops.size := Nat.lt_trans hm0 hn
    have hm0u : listed.getD m0 true = false := getD_in (by rw [hI.size]; exact hm0s) hmL
    rw [Nat.succ_add]
    refine ⟨fun hr => ?_, fun i hi => ?_⟩
    · exfalso
      have hmem : m0 ∈ Region.ready md ops listed := mem_ready.2 ⟨hm0u, ops[m0], by simp [hm0s], fun e he hb => hmb _ (ho.back m0 ops[m0] (by simp [hm0s]) e he hb)⟩
      rw [hr] at hmem; cases hmem
    have hin : i < n := by
      rcases Nat.lt_or_ge i n with h | h
      · exact h
      · exact absurd hi (tail_waits hs hc hn inv _ m0 rfl hm0 hm0u i h)
    obtain ⟨hun, o, hoi, hall⟩ := mem_ready.1 hi
    have hlt := (Array.getElem?_eq_some_iff.1 hoi).1
    have hunf : listed.getD i false = false := getD_both hun
    have hset : ∀ m, (listed.setIfInBounds i true).getD m false = if m = i then true else listed.getD m false := fun m => by
      by_cases hm : m = i
      · subst hm; simp [Array.getD, hI.size, hlt]
      · rw [if_neg hm]
        exact Lex.getD_ne _ (Ne.symm hm)
    -- what it looks at was written by what stands ahead of it
    have hlook : ∀ t ∈ o.looksAt ops, Env ops a0 Rs (fun _ => true) i t (a.tmps.getD t undef) w := fun t ht => by
      have h := hI.env t
      unfold Env at h ⊢
      have e : lastW ops (fun i => listed.getD i false) t ops.size = lastW ops (fun _ => true) t i := by
        rw [← lastW_below ops.size (Nat.le_of_lt hlt)]
        refine lastW_congr _ fun m hm => ?_
        by_cases hw : wrote ops t m = true
        · obtain ⟨om, hom, hdm⟩ := wrote_iff.1 hw
          rw [hw, Bool.and_true, Bool.and_true]
          rcases Nat.lt_trichotomy m i with hmi | hmi | hmi
          · rw [decide_eq_true hmi]
            rcases ho.pair m i om o hmi hom hoi with ⟨e, he, hb, heq⟩ | hap
            · rw [← heq]; exact hall e he hb
            · rw [not_apart_look hdm ht] at hap; cases hap
          · subst hmi; rw [hunf]; simp
          · rw [show decide (m < i) = false by simp; omega]
            by_cases hL : listed.getD m false = true
            · rcases ho.pair i m o om hmi hoi hom with ⟨e, he, hb, heq⟩ | hap
              · have := hI.down m om hom hL e he hb
                rw [heq, hunf] at this; cases this
              · rw [not_apart_look' ht hdm] at hap; cases hap
            · simpa using hL
        · simp [hw]
      rwa [e] at h
    refine wpOp_of_ok hoi (hob i o hin hoi a w hI.cls hI.tmps hlook) fun v w' hup hRv => ?_
    refine ih _ _ _ ?_ (inv.set hi hin) ?_
    · have := un_set (L := fun i => listed.getD i false) (L' := fun m => (listed.setIfInBounds i true).getD m false) hunf (by simp [hset]) (fun m hm => by simp [hset, hm]) n
      rw [if_pos hin] at this; omega
    · refine ⟨by simpa using hI.size, fun k ok hk hL e he hb => ?_, hC _ _ hup hI.cls, ?_, ?_, fun t => ?_⟩
      · rw [hset] at hL ⊢
        split
        · rfl
        · by_cases hki : k = i
          · subst hki
            obtain rfl : ok = o := by rw [hoi] at hk; injection hk with h; exact h.symm
            exact hall e he hb
          · rw [if_neg hki] at hL
            exact hI.down k ok hk hL e he hb
      · cases hdo : o.dst <;> simp [Act.put, hI.tmps]
      · cases hdo : o.dst <;> simp [Act.put, hI.defs]
      · by_cases hdt : o.dst = some t
        · have hw : wrote ops t i = true := wrote_iff.2 ⟨o, hoi, hdt⟩
          have e : lastW ops (fun m => (listed.setIfInBounds i true).getD m false) t ops.size = some i := by
            refine lastW_at (by simp [hset, hw]) _ hlt fun m h1 h2 => ?_
            by_cases hwm : wrote ops t m = true
            · obtain ⟨om, hom, hdm⟩ := wrote_iff.1 hwm
              rw [hwm, Bool.and_true, hset, if_neg (by omega)]
              by_cases hL : listed.getD m false = true
              · rcases ho.pair i m o om h1 hoi hom with ⟨e, he, hb, heq⟩ | hap
                · have := hI.down m om hom hL e he hb
                  rw [heq, hunf] at this; cases this
                · rw [not_apart_dst hdt hdm] at hap; cases hap
              · simpa using hL
            · simp [hwm]
          unfold Env
          rw [e]
          have hlt2 : t < a.tmps.size := by rw [hI.tmps]; exact hd i o t hoi hdt
          have hg : (a.put o.dst v).tmps.getD t undef = v := by rw [hdt]; simp [Act.put, Array.getD, hlt2]
          rw [hg]
          exact hRv
        · have h := hI.env t
          have e : lastW ops (fun m => (listed.setIfInBounds i true).getD m false) t ops.size = lastW ops (fun m => listed.getD m false) t ops.size := by
            refine lastW_congr _ fun m hm => ?_
            by_cases hmi : m = i
            · subst hmi
              have : wrote ops t m = false := by
                rw [Bool.eq_false_iff]; intro hw
                obtain ⟨om, hom, hdm⟩ := wrote_iff.1 hw
                rw [hoi] at hom; injection hom with hom; subst hom
                exact hdt hdm
              simp [this]
            · simp [hset, hmi]
          have hg : (a.put o.dst v).tmps.getD t undef = a.tmps.getD t undef := by
            cases hdo : o.dst with
            | none => rfl
            | some d =>
              have hne : d ≠ t := fun h => hdt (by rw [hdo, h])
              exact getD_ne _ hne
          rw [hg]
          have h2 := env_up (ops := ops) (a0 := a0) (L := fun i => listed.getD i false) (k := ops.size) (t := t) hR _ _ _ hup h
          unfold Env at h2 ⊢
          rwa [e]

/-- Out of the walk: a fact for each operation, that holds whatever order. -/
theorem lex_facts_n {N : Nat} (hs : ∀ (j : Nat) (o : Oper) cs b, ops[j]? = some o → o.op ≠ .select cs b) (hd : ∀ (k : Nat) (o : Oper) d, ops[k]? = some o → o.dst = some d → d < a0.tmps.size) :
    ∀ (l : List Oper) (k : Nat) (a : Act) (D : Dirt) (Rs : Nat → Fact), (∀ j, j < l.length → l[j]? = ops[k + j]?) → k + l.length = N → Tidy D → (∀ p ∈ D, p.1 < a0.tmps.size ∧ UpC p.2) →
      a.tmps.size = a0.tmps.size → a.defers = a0.defers → (∀ i, UpC (Rs i)) → (∀ t v w, Env ops a0 Rs (fun _ => true) k t v w → factAt D a t v w) → wpLex P ops C Q l a D →
      ∃ Rs' : Nat → Fact, (∀ i, i < k → Rs' i = Rs i) ∧ (∀ i, UpC (Rs' i)) ∧
        (∀ (i : Nat) (o : Oper), k ≤ i → i < N → ops[i]? = some o → ∀ b w, C w → b.tmps.size = a0.tmps.size → (∀ t ∈ o.looksAt ops, Env ops a0 Rs' (fun _ => true) i t (b.tmps.getD t undef) w) → opOk P ops o b w (Rs' i)) ∧
        (∀ b w, C w → b.tmps.size = a0.tmps.size → b.defers = a0.defers → (∀ t, Env ops a0 Rs' (fun _ => true) N t (b.tmps.getD t undef) w) → Q .normal b w)
  | [], k, a, D, Rs, hl, hk, hT, hD, hz, hdf, hR, hE, h => by
    simp at hk
    subst hk
    refine ⟨Rs, fun _ _ => rfl, hR, fun i o hki hin ho => ?_, fun b w hC hbz hbd hbe => ?_⟩
    · omega
    · obtain ⟨a', hQ', ha1, ha2, ha3⟩ := fill_use D (b := b) (fun p hp => by rw [hz]; exact (hD p hp).1)
        (fun p hp => by have := hE p.1 _ w (hbe p.1); unfold factAt at this; rwa [hT.find hp] at this) (h w hC)
      have e : a' = b := by
        have ht : a'.tmps = b.tmps := by
          apply Array.ext (by rw [ha1, hz, hbz])
          intro i h1 h2
          have h3 := ha3 i
          have h4 : a'.tmps.getD i undef = b.tmps.getD i undef := by
            by_cases hany : (D.any fun p => p.1 == i) = true
            · rw [h3, if_pos hany]
            · rw [h3, if_neg hany]
              have h5 := hE i _ w (hbe i)
              unfold factAt at h5
              have : D.find? (fun p => p.1 == i) = none := by
                rw [List.find?_eq_none]
                intro p hp hpi
                exact hany (List.any_eq_true.2 ⟨p, hp, hpi⟩)
              rw [this] at h5
              exact h5.symm
          simpa [Array.getD, h1, h2] using h4
        have hdd : a'.defers = b.defers := by rw [ha2, hdf, hbd]
        cases a'; cases b
        simp at ht hdd
        simp [ht, hdd]
      rwa [e] at hQ'
  | o :: l, k, a, D, Rs, hl, hk, hT, hD, hz, hdf, hR, hE, h => by
    have hok : ops[k]? = some o := by simpa using (hl 0 (by simp)).symm
    have hlt := (Array.getElem?_eq_some_iff.1 hok).1
    have hl' : ∀ j, j < l.length → l[j]? = ops[k + 1 + j]? := fun j hj => by have := hl (j + 1) (by simp; omega); simpa [Nat.add_assoc, Nat.add_comm 1 j] using this
    have hk' : k + 1 + l.length = N := by simp at hk; omega
    have step : ∀ (R : Fact) (a1 : Act) (D1 : Dirt), UpC R → (∀ w, C w → fill (looked ops o D) w (fun a' => opOk P ops o a' w R) a) → Tidy D1 → (∀ p ∈ D1, p.1 < a0.tmps.size ∧ UpC p.2) →
        a1.tmps.size = a0.tmps.size → a1.defers = a0.defers → (∀ t, o.dst ≠ some t → ∀ v w, factAt D a t v w → factAt D1 a1 t v w) → (∀ t, o.dst = some t → ∀ v w, R v w → factAt D1 a1 t v w) →
        wpLex P ops C Q l a1 D1 →
        ∃ Rs' : Nat → Fact, (∀ i, i < k → Rs' i = Rs i) ∧ (∀ i, UpC (Rs' i)) ∧
          (∀ (i : Nat) (o : Oper), k ≤ i → i < N → ops[i]? = some o → ∀ b w, C w → b.tmps.size = a0.tmps.size → (∀ t ∈ o.looksAt ops, Env ops a0 Rs' (fun _ => true) i t (b.tmps.getD t undef) w) → opOk P ops o b w (Rs' i)) ∧
          (∀ b w, C w → b.tmps.size = a0.tmps.size → b.defers = a0.defers → (∀ t, Env ops a0 Rs' (fun _ => true) N t (b.tmps.getD t undef) w) → Q .normal b w) := by
      intro R a1 D1 hRu hfill hT1 hD1 hz1 hd1 hkeep hnew hrest
      have hlast : ∀ (Rs1 : Nat → Fact) (t : Tmp), (∀ i, i < k → Rs1 i = Rs i) → Env ops a0 Rs1 (fun _ => true) k t = Env ops a0 Rs (fun _ => true) k t := fun Rs1 t he => by
        unfold Env
        cases hw : lastW ops (fun _ => true) t k with
        | none => rfl
        | some j => simp only []; exact he j (lastW_lt k hw)
      obtain ⟨Rs', e1, e2, e3, e4⟩ := lex_facts_n hs hd l (k + 1) a1 D1 (fun i => if i = k then R else Rs i) hl' hk' hT1 hD1 hz1 hd1
        (fun i => by by_cases hi : i = k <;> simp [hi, hRu, hR]) (fun t v w hEnv => by
          unfold Env at hEnv
          rw [lastW] at hEnv
          by_cases hdt : o.dst = some t
          · rw [if_pos (by simp [wrote, hok, hdt])] at hEnv
            simp at hEnv
            exact hnew t hdt v w hEnv
          · rw [if_neg (by simp [wrote, hok, hdt])] at hEnv
            refine hkeep t hdt v w (hE t v w ?_)
            have := hlast (fun i => if i = k then R else Rs i) t (fun i hi => by simp [show i ≠ k by omega])
            rw [← this]
            exact hEnv) hrest
      refine ⟨Rs', fun i hi => by rw [e1 i (by omega)]; simp [show i ≠ k by omega], e2, fun i o' hki hin hoi b w hC hbz hbe => ?_, e4⟩
      rcases Nat.lt_or_ge k i with hlt' | hge
      · exact e3 i o' hlt' hin hoi b w hC hbz hbe
      · obtain rfl : i = k := by omega
        obtain rfl : o' = o := by rw [hok] at hoi; injection hoi with h; exact h.symm
        have hRi : Rs' i = R := by rw [e1 i (by omega)]; simp
        rw [hRi]
        have hfac : ∀ t ∈ o'.looksAt ops, factAt D a t (b.tmps.getD t undef) w := fun t ht => hE t _ w (by
          have := hbe t ht
          rwa [hlast Rs' t (fun j hj => by rw [e1 j (by omega)]; simp [show j ≠ i by omega])] at this)
        obtain ⟨a', k1, k2, k3, k4⟩ := fill_use (looked ops o' D) (b := b) (fun p hp => by rw [hz]; exact (hD p (List.mem_filter.1 hp).1).1)
          (fun p hp => by
            obtain ⟨hp1, hp2⟩ := List.mem_filter.1 hp
            have := hfac p.1 (by simpa using hp2)
            unfold factAt at this
            rwa [hT.find hp1] at this) (hfill w hC)
        refine opOk_congr (hs i o' · · hok) (by rw [k2, hz, hbz]) (fun t ht => ?_) k1
        rw [k4 t]
        split
        · rfl
        · rename_i hany
          have h5 := hfac t ht
          unfold factAt at h5
          have : D.find? (fun p => p.1 == t) = none := by
            rw [List.find?_eq_none]
            intro p hp hpi
            have hpt : p.1 = t := by simpa using hpi
            exact hany (List.any_eq_true.2 ⟨p, List.mem_filter.2 ⟨hp, by rw [hpt]; simpa using ht⟩, hpi⟩)
          rw [this] at h5
          exact h5.symm
    have hwT : Tidy (wiped o D) := hT.filter _
    have hwD : ∀ p ∈ wiped o D, p.1 < a0.tmps.size ∧ UpC p.2 := fun p hp => hD p (List.mem_filter.1 hp).1
    have hwf : ∀ t, o.dst ≠ some t → (wiped o D).find? (fun p => p.1 == t) = D.find? (fun p => p.1 == t) := fun t ht => find_filter fun p hp => by simp [hp]; exact ht
    rcases h with ⟨c, hf, hr⟩ | ⟨t0, R, ht0, hRu, hf, hr⟩
    · refine step (fun v _ => v = c) _ _ (upC_eq c) hf hwT hwD (by rw [put_size, hz]) (by rw [put_defs, hdf]) (fun t ht v w hfa => ?_) (fun t ht v w hv => ?_) hr
      · unfold factAt at hfa ⊢
        rw [hwf t ht]
        cases hp : D.find? (fun p => p.1 == t) with
        | some p => rw [hp] at hfa; exact hfa
        | none =>
          rw [hp] at hfa
          have hfa' : v = a.tmps.getD t undef := hfa
          show v = (a.put o.dst c).tmps.getD t undef
          cases hdo : o.dst with
          | none => simpa [Act.put] using hfa'
          | some d =>
            have hne : d ≠ t := fun e => ht (by rw [hdo, e])
            have : (a.put (some d) c).tmps.getD t undef = a.tmps.getD t undef := getD_ne _ hne
            rw [this]; exact hfa'
      · unfold factAt
        have hn : (wiped o D).find? (fun p => p.1 == t) = none := by
          rw [List.find?_eq_none]
          intro p hp hpt
          have := (List.mem_filter.1 hp).2
          simp at this hpt
          exact this (by rw [ht, hpt])
        rw [hn]
        have hlt2 : t < a.tmps.size := by rw [hz]; exact hd k o t hok ht
        show v = (a.put o.dst c).tmps.getD t undef
        rw [ht, put_get _ _ _ _ hlt2, if_pos rfl]; exact hv
    · refine step R a ((t0, R) :: wiped o D) hRu hf ?_ ?_ hz hdf (fun t ht v w hfa => ?_) (fun t ht v w hv => ?_) hr
      · unfold Tidy
        rw [List.pairwise_cons]
        refine ⟨fun p hp => ?_, hwT⟩
        have := (List.mem_filter.1 hp).2
        simp [ht0] at this
        exact this
      · intro p hp
        rcases List.mem_cons.1 hp with rfl | hp
        · exact ⟨hd k o t0 hok ht0, hRu⟩
        · exact hwD p hp
      · have hne : t0 ≠ t := fun e => ht (by rw [ht0, e])
        unfold factAt at hfa ⊢
        rw [List.find?_cons_of_neg (by simpa using hne), hwf t ht]
        exact hfa
      · obtain rfl : t0 = t := by rw [ht0] at ht; injection ht
        unfold factAt
        rw [List.find?_cons_of_pos (by simp)]
        exact hv

/-- THE LAW WITH A TAIL: a region that draws its order, of which all but the first n operations come last, in their order: the head goes by the walk of its text, whatever it makes; the tail as any list, whatever it writes. -/
theorem wp_region_lex_tail {id : Nat} {l : List Oper} {a : Act} {w : World} (n : Nat) (hm : P.follows .mixedOrders = true) (hB : Region.lexB .any l.toArray = true) (hT : Region.lexTailB .any l.toArray n = true)
    (hd : (l.all fun o => match o.dst with | some d => decide (d < a.tmps.size) | none => true) = true)
    (h : wpLex P l.toArray (Up w) (fun _ a' w' => wpList P l.toArray Q (l.drop n) a' w') (l.take n) a []) : (Code.region id l.toArray true).wp P Q a w := by
  simp only [Region.lexTailB, Bool.and_eq_true, decide_eq_true_eq] at hT
  obtain ⟨⟨⟨⟨hsel, hn⟩, hs⟩, hc⟩, hlex⟩ := hT
  have ho := order_of hB
  have hnl : n < l.length := by simpa using hn
  have htl : (l.take n).length = n := by simp; omega
  have hdl : (l.drop n).length = l.toArray.size - n := by simp
  have hd' : ∀ (k : Nat) (o : Oper) d, l.toArray[k]? = some o → o.dst = some d → d < a.tmps.size := fun k o d hk hod => by
    have := List.all_eq_true.1 hd o (List.mem_of_getElem? (by simpa using hk))
    rw [hod] at this; simpa using this
  obtain ⟨Rs, _, hR, hob, hQ⟩ := lex_facts_n (N := n) (C := Up w) (Q := fun _ a' w' => wpList P l.toArray Q (l.drop n) a' w') (P := P) (a0 := a) ho.sel hd' (l.take n) 0 a [] (fun _ _ _ => True)
    (fun j hj => by
      have hj' : j < n := by rw [htl] at hj; exact hj
      simp [hj']) (by simpa using htl) List.Pairwise.nil (fun p hp => by cases hp) rfl rfl (fun _ _ _ _ _ _ => trivial)
    (fun t v w h => h) h
  have inv0 : HeadInv .any l.toArray n (Array.replicate l.toArray.size false) :=
    ⟨by simp, fun j oj _ hl => (by rw [getD_replicate_false] at hl; cases hl), fun t _ ht => getD_in (by simpa using ht) (getD_replicate_false _ _)⟩
  have hun : un (fun i => (Array.replicate l.toArray.size false).getD i false) n = n := by
    have : ∀ k, un (fun i => (Array.replicate l.toArray.size false).getD i false) k = k := fun k => by
      induction k with
      | zero => rfl
      | succ k ih => rw [un, ih, getD_replicate_false]; rfl
    exact this n
  -- the tail is one row
  have hseq : ∀ (g m k : Nat) (listed : Array Bool), (∀ i, i < l.toArray.size → listed.getD i false = decide (i < k)) → listed.size = l.toArray.size → k + m = n → Region.lexHead .any l.toArray g m k listed = true →
      ∃ listed' : Array Bool, listed'.size = l.toArray.size ∧ (∀ i, i < l.toArray.size → listed'.getD i false = decide (i < n)) ∧ Region.seqB .any l.toArray g n listed' = true := by
    intro g m
    induction m with
    | zero =>
      intro k listed h1 h2 h3 h4
      obtain rfl : k = n := by omega
      exact ⟨listed, h2, h1, by simpa [Region.lexHead] using h4⟩
    | succ m ih =>
      intro k listed h1 h2 h3 h4
      simp only [Region.lexHead, Bool.and_eq_true] at h4
      refine ih (k + 1) _ (fun i hi => ?_) (by simpa using h2) (by omega) h4.2
      by_cases hik : i = k
      · subst hik; simp [Array.getD, h2]; simpa using hi
      · rw [Lex.getD_ne _ (Ne.symm hik), h1 i hi, Bool.eq_iff_iff]
        simp; omega
  obtain ⟨ls, ls1, ls2, ls3⟩ := hseq _ n 0 _ (fun i _ => by rw [getD_replicate_false]; simp) (by simp) (by omega) hlex
  refine wp_region_any hm ?_
  have key := wpAny_lex_tail (g := l.toArray.size - n) (Q := Q) (C := Up w) (a0 := a) (Rs := Rs) ho hs hc hn (fun w1 w2 h1 h2 => h2.trans h1) hR hd' (fun i o hin hi => hob i o (Nat.zero_le _) hin hi)
    (fun listed a' w' hC h1 h2 h3 h4 h5 => by
      have e : listed = ls := by
        apply Array.ext (by rw [h4, ls1])
        intro i hi1 hi2
        have hi : i < l.toArray.size := by rw [← h4]; exact hi1
        have a1 := h5 i hi
        have a2 := ls2 i hi
        rw [← a2] at a1
        simpa [Array.getD, hi1, hi2] using a1
      have := wpAny_of_seq (md := .any) (Q' := Q) (l.drop n) n listed a' w' (fun j => by simp [List.getElem?_drop]) (by rw [hdl, e]; exact ls3) (hQ a' w' hC h1 h2 h3)
      rwa [hdl] at this) n _ a w.drew hun inv0 ⟨by simp, fun i o hi hL => ?_, Up.drew w, rfl, rfl, fun t => ?_⟩
  · rw [show n + (l.toArray.size - n) = l.toArray.size by omega] at key
    exact key
  · exfalso
    rw [getD_replicate_false] at hL; cases hL
  · have hn' : lastW l.toArray (fun i => (Array.replicate l.toArray.size false).getD i false) t l.toArray.size = none := by
      have : ∀ k, lastW l.toArray (fun i => (Array.replicate l.toArray.size false).getD i false) t k = none := fun k => by
        induction k with
        | zero => rfl
        | succ k ih =>
          rw [lastW, if_neg, ih]
          rw [getD_replicate_false]; simp
      exact this _
    unfold Env
    rw [hn']
end
end Lex
end Go.Proofs.Ythgfbnkggdlokaa
