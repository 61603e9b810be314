/-
  The walk of book.Of.
-/
import Derived.Test.YtolpfchnfhdhkaaOfd
import Derived.Laws.EntriesVeiled
namespace Go.Proofs.Ytolpfchnfhdhkaa
open Go.RowKit
set_option maxRecDepth 100000
set_option maxRecDepth 100000

theorem Rul.wide {w : World} {B B' bm bs b0 b1 : Nat} {es : List Ev} (h : Rul w B bm bs b0 b1 es) (hB : B' ≤ B) : Rul w B' bm bs b0 b1 es := ⟨h.m, h.s, h.g, Nat.le_trans hB h.hm, Nat.le_trans hB h.hs, Nat.le_trans hB h.h0, Nat.le_trans hB h.h1⟩
theorem Dfs.start {w : World} (es : List Ev) : Dfs (w.alloc (.map #[] 0)) w.heap.size w.heap.size (fun _ => none) [] es [] :=
  ⟨Gm.new strKey w, rfl, Nat.le_refl _, fun x hx => (by cases hx), List.nodup_nil, List.nodup_nil, fun _ _ => rfl, fun _ h => absurd rfl h⟩
theorem Dfs.noOwn {own own' : Nat → Option (Nat × Nat)} {bm bs b0 b1 z : Nat} (h : NoOwn own bm bs b0 b1) (ho : ∀ g, g < z → own' g = own g) (h0 : bm < z) (h1 : bs < z) (h2 : b0 < z) (h3 : b1 < z) : NoOwn own' bm bs b0 b1 :=
  ⟨(ho _ h0).trans h.1, (ho _ h1).trans h.2.1, (ho _ h2).trans h.2.2.1, (ho _ h3).trans h.2.2.2⟩
theorem Rul.lts {w : World} {B bm bs b0 b1 : Nat} {es : List Ev} (h : Rul w B bm bs b0 b1 es) : bm < w.heap.size ∧ bs < w.heap.size ∧ b0 < w.heap.size ∧ b1 < w.heap.size := ⟨h.m.lt, h.s.lt, h.g.lt.1, h.g.lt.2⟩
theorem Rul.grown {w w' : World} {B bm bs b0 b1 m : Nat} {es : List Ev} (h : Rul w B bm bs b0 b1 es) (hg : w.grownBy w' (some m)) (h0 : bm ≠ m) (h1 : bs ≠ m) (h2 : b0 ≠ m) (h3 : b1 ≠ m) : Rul w' B bm bs b0 b1 es :=
  ⟨h.m.grown hg (by simp [h0]), h.s.grown hg (by simp [h1]), h.g.grown hg h2 h3, h.hm, h.hs, h.h0, h.h1⟩
/-- What holds behind the look-up of a draft. -/
def OfMid (es : List Ev) (j s bm bs b0 b1 : Nat) (e : Ev) (be br : Nat) (rule : Array Value) (W wx : World) : Prop :=
  ∃ (own : Nat → Option (Nat × Nat)) (L : List (ByteArray × Nat)) (p : Nat), (e.key, p) ∈ L ∧ Dfs wx s s own L es (es.take j) ∧ HasK L es (es.take (j + 1)) ∧ Rul wx s bm bs b0 b1 es ∧ NoOwn own bm bs b0 b1 ∧ Below s W wx ∧ Blk wx be e.cells 39 ∧ Blk wx br rule 96 ∧ own be = none ∧ own br = none

set_option maxHeartbeats 12800000 in
theorem of_any (es : List Ev) (A : Option Addr) (n cap : Nat) (w : World) (h : EvSl w A n cap es) (hn : n ≤ 1000000) (hks : ∀ e ∈ es, e.key.size ≤ maxLen) :
    Calls Try.prog 32 #[.slice A n cap] w fun x w' => ∃ v ks, x = .returned v ∧ BookAt w' es ks v ∧ (∃ ls : List ByteArray, ls.Nodup ∧ (∀ key, key ∈ ls ↔ ∃ e ∈ es, Bk.cnt es e = true ∧ e.key = key) ∧ ks = Bk.sortS ls) ∧ Lex.Up w w' := by
  have hmm := @run_makeMap Try.prog
  have en1 := enters_of Try.func91 (by kernel_rfl) rfl
  have en2 := enters_of Try.func93 (by kernel_rfl) rfl
  have en3 := enters_of Try.func94 (by kernel_rfl) rfl
  have en4 := enters_of Try.func97 (by kernel_rfl) rfl
  have en5 := enters_of Try.func98 (by kernel_rfl) rfl
  have en6 := enters_of Try.func100 (by kernel_rfl) rfl
  have SL := Lib.hid (fun w' (hu : Lex.Up w w') => EvSl.up h hu)
  have AD := Lib.hid h.addr
  have hl := h.len
  have hlim := h.lim
  have HL := Lib.hid hl
  have HE := Lib.hid (show es.take n = es by rw [← hl, List.take_length])
  have U0 := Lib.hid (show Below w.heap.size w (w.alloc (.map #[] 0)) from (Below.refl _ _).alloc (Nat.le_refl _) _)
  have D0 := Lib.hid (Dfs.start (w := w) es)
  have HK := Lib.hid hks
  clear h hl hks
  go_enter Try.func32, Try.ntmps32
  go_upto_region 2 with (fail)
  refine wp_named (fun W hW => ?_)
  rw [← show W = w.alloc (.map #[] 0) from hW] at U0 D0
  have z0 : W.heap.size = w.heap.size + 1 := by rw [hW]; simp
  clear hW hmm
  have C1 := Lib.hid (rulesOf_any es A n cap W (SL.out W U0.out))
  go_wp2_with fail
  refine C1.out.mono ?_
  rintro x w1 ⟨bm, bs, b0, b1, rfl, hr, hu⟩
  have R1 := Lib.hid (hr.wide (B' := w.heap.size) (by omega))
  have D1 := Lib.hid (D0.out.up hu)
  have U1 := Lib.hid (show Below w.heap.size w w1 from Below.trans U0.out (hu.mono U0.out.size))
  have hbm := hr.hm
  have hbs := hr.hs
  have hb0 := hr.h0
  have hb1 := hr.h1
  clear hr hu C1 D0 U0
  go_wp2
  go_loopw [17] (fun v wr => OfRel es w.heap.size bm bs b0 b1 w v wr) (fun v _ => n - (intOf v).toNat)
  case atStart => exact ⟨0, _, _, by omega, rfl, Lib.hid (by simpa using D1.out), Lib.hid (fun key => by simp), Nat.le_refl _, R1, Lib.hid ⟨rfl, rfl, rfl, rfl⟩, U1⟩
  case round =>
    obtain ⟨k, own, L, hk, rfl, DD, HH, hLk, RR, NO, UU⟩ := hrel
    rw [HL.out] at hk
    clear D1 R1 U1
    by_cases h5 : k < n
    · have h5' : (k : Int) < n := by omega
      obtain ⟨b, off, rfl⟩ := AD.out (by omega)
      obtain ⟨e0, e1, e2, e3, e4, e5, e6, e7, e8, e9, e10, e11⟩ := ev_at (SL.out wr UU.out) h5
      have TK := Lib.hid (ev_take (es := es) (k := k) (by rw [HL.out]; exact h5))
      generalize Ev.nth es k = e at e0 e1 e2 e3 e4 e5 e6 e7 e8 e9 e10 e11 TK
      have hbw : w.heap.size ≤ wr.heap.size := UU.out.size
      have hmw := DD.out.map.lt
      go_upto_region 6 with (fail)
      refine wp_named (fun W5 hW => ?_)
      have up5 : Lex.Up wr W5 := by rw [hW]; exact (Below.refl _ _).alloc (Nat.le_refl _) _
      have E5 := Lib.hid (show Blk W5 wr.heap.size e.cells 39 by rw [hW]; exact Blk.new wr e.cells 39)
      have D5 := Lib.hid (DD.out.up up5)
      have R5 := Lib.hid (RR.out.up up5)
      have U5 := Lib.hid (show Below w.heap.size w W5 from Below.trans UU.out (up5.mono hbw))
      have FE := Lib.hid (DD.out.free wr.heap.size (Nat.le_refl _))
      have lt5 := E5.out.lt
      clear hW up5 DD RR UU e0 e1 e2 e3 e4 e5 e6 e7 e8 e9 e10 e11
      obtain ⟨a0, a1, a2, a3, a4, a5, a6, a7, a8, a9, a10, a11⟩ := E5.out.e12
      have lk := R5.out.look e.k
      by_cases k1 : e.k = 1
      · have hr : Bk.ruleOf bs b0 b1 e.k = Bk.rule1 b0 b1 := by rw [k1]; rfl
        have hd : Bk.ruled e.k = true := by rw [k1]; rfl
        rw [hr, hd] at lk
        unfold Bk.rule1 Bk.sg at lk
        have K1 := Lib.hid k1
        clear hr hd k1
        have CN := Lib.hid (fun w' (hr : Rul w' w.heap.size bm bs b0 b1 es) => cnt1_any w.heap.size bm bs b0 b1 es e w' hr K1.out)
        have WR := Lib.hid (show ∀ (own : Nat → Option (Nat × Nat)) (L : List (ByteArray × Nat)) (p : Nat) (w' : World), Dfs w' w.heap.size w.heap.size own L es (es.take k) → w.heap.size ≤ w'.heap.size → (e.key, p) ∈ L →
            Calls Try.prog 93 #[.pointer (some ⟨p, 0, none⟩), e.val] w' fun x w'' => x = .returned (.tuple #[]) ∧ DrPost w' w'' w.heap.size own p (Bk.wr (Bk.drOf es (es.take k) e.key) e) from fun own L p w' hd hB hm => by
          obtain ⟨vs, hv⟩ := hd.dr _ hm
          have hn6 : ∀ j, j < 6 → (Bk.drOf es (es.take k) e.key j).1 ≤ 1000000 := fun j _ => Nat.le_trans (Bk.dr_len _ _ _ _) (by rw [List.length_take, HL.out]; omega)
          have hfr := hd.free
          exact write1_any w.heap.size p own vs (Bk.drOf es (es.take k) e.key) e w' hv K1.out)
        have hbr : Lex.Up W5 (W5.alloc (.cells (Bk.rule1 b0 b1).cells 96)) := (Below.refl _ _).alloc (Nat.le_refl _) _
        have FR := Lib.hid (D5.out.free W5.heap.size (Nat.le_refl _))
        have z5 := U5.out.size
        go_wp2_with fail
        refine (CN.out _ (R5.out.up hbr)).mono ?_
        rintro x w6 ⟨rfl, hb⟩
        have hu6 : Lex.Up W5 w6 := Below.trans hbr (hb.mono hbr.size)
        have E6 := Lib.hid (E5.out.up hu6)
        have D6 := Lib.hid (D5.out.up hu6)
        have R6 := Lib.hid (R5.out.up hu6)
        have F6 := Lib.hid (show Blk w6 W5.heap.size (Bk.rule1 b0 b1).cells 96 from (Blk.new W5 (Bk.rule1 b0 b1).cells 96).up hb)
        have U6 := Lib.hid (show Below w.heap.size w w6 from Below.trans U5.out (hu6.mono z5))
        have z6 := hu6.size
        clear hbr hb hu6 E5 D5 R5 U5 CN a0 a1 a2 a3 a4 a5 a6 a7 a8 a9 a10 a11 lk
        obtain ⟨a0, a1, a2, a3, a4, a5, a6, a7, a8, a9, a10, a11⟩ := E6.out.e12
        cases hc : Bk.cnt es e
        · have SK := Lib.hid (show Dfs w6 w.heap.size w.heap.size own L es (es.take (k + 1)) by rw [TK.out]; exact D6.out.skip hc)
          have HN := Lib.hid (show HasK L es (es.take (k + 1)) by rw [TK.out]; exact HH.out.old (fun q => by rw [hc] at q; cases q))
          clear hc WR D6 HH
          go_wp2
          go_roundw
          case rel => exact ⟨k + 1, own, L, by rw [HL.out]; omega, by go_num, SK, HN, by omega, R6, NO, U6⟩
          case measure => simp [intOf]; omega
        have HC := Lib.hid hc
        clear hc
        rcases D6.out.get e.key with ⟨p, hmem, hget⟩ | ⟨hnk, hget⟩
        · have lk := Gm.look (T := strKey) 90 98 Try.underlying90 (zero_ptr w6) D6.out.map e.key false
          rw [hget] at lk
          change (Instr.lookup _ _ (.string e.key) false).run _ _ = .ok (.pointer (some ⟨p, 0, none⟩)) _ at lk
          have WR1 := Lib.hid (WR.out own L p w6 D6.out U6.out.size hmem)
          have HN := Lib.hid (show HasK L es (es.take (k + 1)) by rw [TK.out]; exact HH.out.old (fun _ => List.mem_map.2 ⟨_, hmem, rfl⟩))
          have HM := Lib.hid hmem
          have f2 : w6.cell? ⟨W5.heap.size, 2, none⟩ = some (.func (.func 93) #[] #[]) := F6.out.cell rfl
          clear WR HH hget hmem
          go_wp2_with fail
          refine WR1.out.mono ?_
          rintro x w8 ⟨rfl, hq⟩
          obtain ⟨own8, hd8, ho8, hm8⟩ := D6.out.step HM.out HC.out hq
          have D8 := Lib.hid (show Dfs w8 w.heap.size w.heap.size own8 L es (es.take (k + 1)) by rw [TK.out]; exact hd8)
          have R8 := Lib.hid (hm8.rul R6.out NO.out.1 NO.out.2.1 NO.out.2.2.1 NO.out.2.2.2)
          have N8 := Lib.hid (Dfs.noOwn NO.out ho8 R6.out.lts.1 R6.out.lts.2.1 R6.out.lts.2.2.1 R6.out.lts.2.2.2)
          have U8 := Lib.hid (Below.trans U6.out (hm8.below D6.out.low U6.out.size))
          clear hq hd8 ho8 hm8 WR1 lk f2 a0 a1 a2 a3 a4 a5 a6 a7 a8 a9 a10 a11
          go_wp2
          go_roundw
          case rel => exact ⟨k + 1, own8, L, by rw [HL.out]; omega, by go_num, D8, HN, by omega, R8, N8, U8⟩
          case measure => simp [intOf]; omega
        · have lk := Gm.look (T := strKey) 90 98 Try.underlying90 (zero_ptr w6) D6.out.map e.key false
          rw [hget] at lk
          change (Instr.lookup _ _ (.string e.key) false).run _ _ = .ok (.pointer none) _ at lk
          obtain ⟨w9, hs, hm9, hg9⟩ := Gm.store (T := strKey) 90 98 Try.underlying90 (D6.out.map.alloc (.cells Bk.nil6 102)) e.key (Bk.ptr w6.heap.size)
          have hml := D6.out.map.lt
          have HM9 := Lib.hid (show Gm strKey w9 w.heap.size ((L ++ [(e.key, w6.heap.size)]).map fun x => (x.1, Bk.ptr x.2)) by rw [Gm.put_new hget] at hm9; simpa using hm9)
          obtain ⟨own9, hd9, ho9, hg69⟩ := D6.out.add HH.out hnk HM9.out hg9
          have D9 := Lib.hid hd9
          have HN := Lib.hid (show HasK (L ++ [(e.key, w6.heap.size)]) es (es.take (k + 1)) by rw [TK.out]; exact HH.out.new HC.out _)
          have HM := Lib.hid (show (e.key, w6.heap.size) ∈ L ++ [(e.key, w6.heap.size)] by simp)
          have hne := R6.out
          have hnm : own w.heap.size = none := D6.out.hm
          have R9 := Lib.hid (R6.out.grown hg69 (fun q => by have := R6.out.hm; omega) (fun q => by have := R6.out.hs; omega) (fun q => by have := R6.out.h0; omega) (fun q => by have := R6.out.h1; omega))
          have N9 := Lib.hid (Dfs.noOwn NO.out ho9 R6.out.lts.1 R6.out.lts.2.1 R6.out.lts.2.2.1 R6.out.lts.2.2.2)
          have U9 := Lib.hid (below_by U6.out hg69 (Nat.le_refl _) (Nat.le_refl _))
          have E9 := Lib.hid (E6.out.grown hg69 (fun q => by injection q with q; omega))
          have F9 := Lib.hid (F6.out.grown hg69 (fun q => by injection q with q; omega))
          have WR1 := Lib.hid (WR.out own9 _ w6.heap.size w9 D9.out U9.out.size HM.out)
          have lk9 := Gm.look (T := strKey) 90 98 Try.underlying90 (zero_ptr w9) hm9 e.key false
          rw [Gm.get_put, if_pos rfl] at lk9
          change (Instr.lookup _ _ (.string e.key) false).run _ _ = .ok (.pointer (some ⟨w6.heap.size, 0, none⟩)) _ at lk9
          change (Instr.mapUpdate _ _ (.string e.key) (.pointer (some ⟨w6.heap.size, 0, none⟩))).run _ _ = _ at hs
          unfold Bk.nil6 at hs
          obtain ⟨c0, c1, c2, c3, c4, c5, c6, c7, c8, c9, c10, c11⟩ := E9.out.e12
          have f2 : w9.cell? ⟨W5.heap.size, 2, none⟩ = some (.func (.func 93) #[] #[]) := F9.out.cell rfl
          clear hm9 hg9 hd9 ho9 hg69 hne WR HH hget hnk D6 R6 U6 NO
          go_wp2_with fail
          refine WR1.out.mono ?_
          rintro x w8 ⟨rfl, hq⟩
          obtain ⟨own8, hd8, ho8, hm8⟩ := D9.out.step HM.out HC.out hq
          have D8 := Lib.hid (show Dfs w8 w.heap.size w.heap.size own8 (L ++ [(e.key, w6.heap.size)]) es (es.take (k + 1)) by rw [TK.out]; exact hd8)
          have R8 := Lib.hid (hm8.rul R9.out N9.out.1 N9.out.2.1 N9.out.2.2.1 N9.out.2.2.2)
          have N8 := Lib.hid (Dfs.noOwn N9.out ho8 R9.out.lts.1 R9.out.lts.2.1 R9.out.lts.2.2.1 R9.out.lts.2.2.2)
          have U8 := Lib.hid (Below.trans U9.out (hm8.below D9.out.low U9.out.size))
          clear hq hd8 ho8 hm8 WR1 lk lk9 hs f2 a0 a1 a2 a3 a4 a5 a6 a7 a8 a9 a10 a11 c0 c1 c2 c3 c4 c5 c6 c7 c8 c9 c10 c11
          go_wp2
          go_roundw
          case rel => exact ⟨k + 1, own8, _, by rw [HL.out]; omega, by go_num, D8, HN, by simp; omega, R8, N8, U8⟩
          case measure => simp [intOf]; omega
      by_cases k3 : e.k = 3
      · have hr : Bk.ruleOf bs b0 b1 e.k = Bk.rule3 bs b0 b1 := by rw [k3]; rfl
        have hd : Bk.ruled e.k = true := by rw [k3]; rfl
        rw [hr, hd] at lk
        unfold Bk.rule3 Bk.sg at lk
        have K1 := Lib.hid k3
        clear hr hd k3 k1
        have CN := Lib.hid (fun w' (hr : Rul w' w.heap.size bm bs b0 b1 es) => cnt3_any w.heap.size bm bs b0 b1 es e w' hr K1.out)
        have WR := Lib.hid (show ∀ (own : Nat → Option (Nat × Nat)) (L : List (ByteArray × Nat)) (p : Nat) (w' : World), Dfs w' w.heap.size w.heap.size own L es (es.take k) → w.heap.size ≤ w'.heap.size → (e.key, p) ∈ L →
            Calls Try.prog 97 #[.pointer (some ⟨p, 0, none⟩), e.val] w' fun x w'' => x = .returned (.tuple #[]) ∧ DrPost w' w'' w.heap.size own p (Bk.wr (Bk.drOf es (es.take k) e.key) e) from fun own L p w' hd hB hm => by
          obtain ⟨vs, hv⟩ := hd.dr _ hm
          have hn6 : ∀ j, j < 6 → (Bk.drOf es (es.take k) e.key j).1 ≤ 1000000 := fun j _ => Nat.le_trans (Bk.dr_len _ _ _ _) (by rw [List.length_take, HL.out]; omega)
          have hfr := hd.free
          exact write3_any w.heap.size p own vs (Bk.drOf es (es.take k) e.key) e w' hv hB hfr hn6 K1.out)
        have hbr : Lex.Up W5 (W5.alloc (.cells (Bk.rule3 bs b0 b1).cells 96)) := (Below.refl _ _).alloc (Nat.le_refl _) _
        have FR := Lib.hid (D5.out.free W5.heap.size (Nat.le_refl _))
        have z5 := U5.out.size
        go_wp2_with fail
        refine (CN.out _ (R5.out.up hbr)).mono ?_
        rintro x w6 ⟨rfl, hb⟩
        have hu6 : Lex.Up W5 w6 := Below.trans hbr (hb.mono hbr.size)
        have E6 := Lib.hid (E5.out.up hu6)
        have D6 := Lib.hid (D5.out.up hu6)
        have R6 := Lib.hid (R5.out.up hu6)
        have F6 := Lib.hid (show Blk w6 W5.heap.size (Bk.rule3 bs b0 b1).cells 96 from (Blk.new W5 (Bk.rule3 bs b0 b1).cells 96).up hb)
        have U6 := Lib.hid (show Below w.heap.size w w6 from Below.trans U5.out (hu6.mono z5))
        have z6 := hu6.size
        clear hbr hb hu6 E5 D5 R5 U5 CN a0 a1 a2 a3 a4 a5 a6 a7 a8 a9 a10 a11 lk
        obtain ⟨a0, a1, a2, a3, a4, a5, a6, a7, a8, a9, a10, a11⟩ := E6.out.e12
        cases hc : Bk.cnt es e
        · have SK := Lib.hid (show Dfs w6 w.heap.size w.heap.size own L es (es.take (k + 1)) by rw [TK.out]; exact D6.out.skip hc)
          have HN := Lib.hid (show HasK L es (es.take (k + 1)) by rw [TK.out]; exact HH.out.old (fun q => by rw [hc] at q; cases q))
          clear hc WR D6 HH
          go_wp2
          go_roundw
          case rel => exact ⟨k + 1, own, L, by rw [HL.out]; omega, by go_num, SK, HN, by omega, R6, NO, U6⟩
          case measure => simp [intOf]; omega
        have HC := Lib.hid hc
        clear hc
        rcases D6.out.get e.key with ⟨p, hmem, hget⟩ | ⟨hnk, hget⟩
        · have lk := Gm.look (T := strKey) 90 98 Try.underlying90 (zero_ptr w6) D6.out.map e.key false
          rw [hget] at lk
          change (Instr.lookup _ _ (.string e.key) false).run _ _ = .ok (.pointer (some ⟨p, 0, none⟩)) _ at lk
          have WR1 := Lib.hid (WR.out own L p w6 D6.out U6.out.size hmem)
          have HN := Lib.hid (show HasK L es (es.take (k + 1)) by rw [TK.out]; exact HH.out.old (fun _ => List.mem_map.2 ⟨_, hmem, rfl⟩))
          have HM := Lib.hid hmem
          have f2 : w6.cell? ⟨W5.heap.size, 2, none⟩ = some (.func (.func 97) #[] #[]) := F6.out.cell rfl
          clear WR HH hget hmem
          go_wp2_with fail
          refine WR1.out.mono ?_
          rintro x w8 ⟨rfl, hq⟩
          obtain ⟨own8, hd8, ho8, hm8⟩ := D6.out.step HM.out HC.out hq
          have D8 := Lib.hid (show Dfs w8 w.heap.size w.heap.size own8 L es (es.take (k + 1)) by rw [TK.out]; exact hd8)
          have R8 := Lib.hid (hm8.rul R6.out NO.out.1 NO.out.2.1 NO.out.2.2.1 NO.out.2.2.2)
          have N8 := Lib.hid (Dfs.noOwn NO.out ho8 R6.out.lts.1 R6.out.lts.2.1 R6.out.lts.2.2.1 R6.out.lts.2.2.2)
          have U8 := Lib.hid (Below.trans U6.out (hm8.below D6.out.low U6.out.size))
          clear hq hd8 ho8 hm8 WR1 lk f2 a0 a1 a2 a3 a4 a5 a6 a7 a8 a9 a10 a11
          go_wp2
          go_roundw
          case rel => exact ⟨k + 1, own8, L, by rw [HL.out]; omega, by go_num, D8, HN, by omega, R8, N8, U8⟩
          case measure => simp [intOf]; omega
        · have lk := Gm.look (T := strKey) 90 98 Try.underlying90 (zero_ptr w6) D6.out.map e.key false
          rw [hget] at lk
          change (Instr.lookup _ _ (.string e.key) false).run _ _ = .ok (.pointer none) _ at lk
          obtain ⟨w9, hs, hm9, hg9⟩ := Gm.store (T := strKey) 90 98 Try.underlying90 (D6.out.map.alloc (.cells Bk.nil6 102)) e.key (Bk.ptr w6.heap.size)
          have hml := D6.out.map.lt
          have HM9 := Lib.hid (show Gm strKey w9 w.heap.size ((L ++ [(e.key, w6.heap.size)]).map fun x => (x.1, Bk.ptr x.2)) by rw [Gm.put_new hget] at hm9; simpa using hm9)
          obtain ⟨own9, hd9, ho9, hg69⟩ := D6.out.add HH.out hnk HM9.out hg9
          have D9 := Lib.hid hd9
          have HN := Lib.hid (show HasK (L ++ [(e.key, w6.heap.size)]) es (es.take (k + 1)) by rw [TK.out]; exact HH.out.new HC.out _)
          have HM := Lib.hid (show (e.key, w6.heap.size) ∈ L ++ [(e.key, w6.heap.size)] by simp)
          have hne := R6.out
          have hnm : own w.heap.size = none := D6.out.hm
          have R9 := Lib.hid (R6.out.grown hg69 (fun q => by have := R6.out.hm; omega) (fun q => by have := R6.out.hs; omega) (fun q => by have := R6.out.h0; omega) (fun q => by have := R6.out.h1; omega))
          have N9 := Lib.hid (Dfs.noOwn NO.out ho9 R6.out.lts.1 R6.out.lts.2.1 R6.out.lts.2.2.1 R6.out.lts.2.2.2)
          have U9 := Lib.hid (below_by U6.out hg69 (Nat.le_refl _) (Nat.le_refl _))
          have E9 := Lib.hid (E6.out.grown hg69 (fun q => by injection q with q; omega))
          have F9 := Lib.hid (F6.out.grown hg69 (fun q => by injection q with q; omega))
          have WR1 := Lib.hid (WR.out own9 _ w6.heap.size w9 D9.out U9.out.size HM.out)
          have lk9 := Gm.look (T := strKey) 90 98 Try.underlying90 (zero_ptr w9) hm9 e.key false
          rw [Gm.get_put, if_pos rfl] at lk9
          change (Instr.lookup _ _ (.string e.key) false).run _ _ = .ok (.pointer (some ⟨w6.heap.size, 0, none⟩)) _ at lk9
          change (Instr.mapUpdate _ _ (.string e.key) (.pointer (some ⟨w6.heap.size, 0, none⟩))).run _ _ = _ at hs
          unfold Bk.nil6 at hs
          obtain ⟨c0, c1, c2, c3, c4, c5, c6, c7, c8, c9, c10, c11⟩ := E9.out.e12
          have f2 : w9.cell? ⟨W5.heap.size, 2, none⟩ = some (.func (.func 97) #[] #[]) := F9.out.cell rfl
          clear hm9 hg9 hd9 ho9 hg69 hne WR HH hget hnk D6 R6 U6 NO
          go_wp2_with fail
          refine WR1.out.mono ?_
          rintro x w8 ⟨rfl, hq⟩
          obtain ⟨own8, hd8, ho8, hm8⟩ := D9.out.step HM.out HC.out hq
          have D8 := Lib.hid (show Dfs w8 w.heap.size w.heap.size own8 (L ++ [(e.key, w6.heap.size)]) es (es.take (k + 1)) by rw [TK.out]; exact hd8)
          have R8 := Lib.hid (hm8.rul R9.out N9.out.1 N9.out.2.1 N9.out.2.2.1 N9.out.2.2.2)
          have N8 := Lib.hid (Dfs.noOwn N9.out ho8 R9.out.lts.1 R9.out.lts.2.1 R9.out.lts.2.2.1 R9.out.lts.2.2.2)
          have U8 := Lib.hid (Below.trans U9.out (hm8.below D9.out.low U9.out.size))
          clear hq hd8 ho8 hm8 WR1 lk lk9 hs f2 a0 a1 a2 a3 a4 a5 a6 a7 a8 a9 a10 a11 c0 c1 c2 c3 c4 c5 c6 c7 c8 c9 c10 c11
          go_wp2
          go_roundw
          case rel => exact ⟨k + 1, own8, _, by rw [HL.out]; omega, by go_num, D8, HN, by simp; omega, R8, N8, U8⟩
          case measure => simp [intOf]; omega
      by_cases k4 : e.k = 4
      · have hr : Bk.ruleOf bs b0 b1 e.k = Bk.rule4 bs := by rw [k4]; rfl
        have hd : Bk.ruled e.k = true := by rw [k4]; rfl
        rw [hr, hd] at lk
        unfold Bk.rule4 at lk
        have K1 := Lib.hid k4
        clear hr hd k4 k3 k1
        have CN := Lib.hid (fun w' (hr : Rul w' w.heap.size bm bs b0 b1 es) => cnt4b_any w.heap.size bm bs b0 b1 es e w' hr K1.out)
        have WR := Lib.hid (show ∀ (own : Nat → Option (Nat × Nat)) (L : List (ByteArray × Nat)) (p : Nat) (w' : World), Dfs w' w.heap.size w.heap.size own L es (es.take k) → w.heap.size ≤ w'.heap.size → (e.key, p) ∈ L →
            Calls Try.prog 100 #[.pointer (some ⟨p, 0, none⟩), e.val] w' fun x w'' => x = .returned (.tuple #[]) ∧ DrPost w' w'' w.heap.size own p (Bk.wr (Bk.drOf es (es.take k) e.key) e) from fun own L p w' hd hB hm => by
          obtain ⟨vs, hv⟩ := hd.dr _ hm
          have hn6 : ∀ j, j < 6 → (Bk.drOf es (es.take k) e.key j).1 ≤ 1000000 := fun j _ => Nat.le_trans (Bk.dr_len _ _ _ _) (by rw [List.length_take, HL.out]; omega)
          have hfr := hd.free
          exact write4_any w.heap.size p own vs (Bk.drOf es (es.take k) e.key) e w' hv hB hn6 K1.out)
        have hbr : Lex.Up W5 (W5.alloc (.cells (Bk.rule4 bs).cells 96)) := (Below.refl _ _).alloc (Nat.le_refl _) _
        have FR := Lib.hid (D5.out.free W5.heap.size (Nat.le_refl _))
        have z5 := U5.out.size
        go_wp2_with fail
        refine (CN.out _ (R5.out.up hbr)).mono ?_
        rintro x w6 ⟨rfl, hb⟩
        have hu6 : Lex.Up W5 w6 := Below.trans hbr (hb.mono hbr.size)
        have E6 := Lib.hid (E5.out.up hu6)
        have D6 := Lib.hid (D5.out.up hu6)
        have R6 := Lib.hid (R5.out.up hu6)
        have F6 := Lib.hid (show Blk w6 W5.heap.size (Bk.rule4 bs).cells 96 from (Blk.new W5 (Bk.rule4 bs).cells 96).up hb)
        have U6 := Lib.hid (show Below w.heap.size w w6 from Below.trans U5.out (hu6.mono z5))
        have z6 := hu6.size
        clear hbr hb hu6 E5 D5 R5 U5 CN a0 a1 a2 a3 a4 a5 a6 a7 a8 a9 a10 a11 lk
        obtain ⟨a0, a1, a2, a3, a4, a5, a6, a7, a8, a9, a10, a11⟩ := E6.out.e12
        cases hc : Bk.cnt es e
        · have SK := Lib.hid (show Dfs w6 w.heap.size w.heap.size own L es (es.take (k + 1)) by rw [TK.out]; exact D6.out.skip hc)
          have HN := Lib.hid (show HasK L es (es.take (k + 1)) by rw [TK.out]; exact HH.out.old (fun q => by rw [hc] at q; cases q))
          clear hc WR D6 HH
          go_wp2
          go_roundw
          case rel => exact ⟨k + 1, own, L, by rw [HL.out]; omega, by go_num, SK, HN, by omega, R6, NO, U6⟩
          case measure => simp [intOf]; omega
        have HC := Lib.hid hc
        clear hc
        rcases D6.out.get e.key with ⟨p, hmem, hget⟩ | ⟨hnk, hget⟩
        · have lk := Gm.look (T := strKey) 90 98 Try.underlying90 (zero_ptr w6) D6.out.map e.key false
          rw [hget] at lk
          change (Instr.lookup _ _ (.string e.key) false).run _ _ = .ok (.pointer (some ⟨p, 0, none⟩)) _ at lk
          have WR1 := Lib.hid (WR.out own L p w6 D6.out U6.out.size hmem)
          have HN := Lib.hid (show HasK L es (es.take (k + 1)) by rw [TK.out]; exact HH.out.old (fun _ => List.mem_map.2 ⟨_, hmem, rfl⟩))
          have HM := Lib.hid hmem
          have f2 : w6.cell? ⟨W5.heap.size, 2, none⟩ = some (.func (.func 100) #[] #[]) := F6.out.cell rfl
          clear WR HH hget hmem
          go_wp2_with fail
          refine WR1.out.mono ?_
          rintro x w8 ⟨rfl, hq⟩
          obtain ⟨own8, hd8, ho8, hm8⟩ := D6.out.step HM.out HC.out hq
          have D8 := Lib.hid (show Dfs w8 w.heap.size w.heap.size own8 L es (es.take (k + 1)) by rw [TK.out]; exact hd8)
          have R8 := Lib.hid (hm8.rul R6.out NO.out.1 NO.out.2.1 NO.out.2.2.1 NO.out.2.2.2)
          have N8 := Lib.hid (Dfs.noOwn NO.out ho8 R6.out.lts.1 R6.out.lts.2.1 R6.out.lts.2.2.1 R6.out.lts.2.2.2)
          have U8 := Lib.hid (Below.trans U6.out (hm8.below D6.out.low U6.out.size))
          clear hq hd8 ho8 hm8 WR1 lk f2 a0 a1 a2 a3 a4 a5 a6 a7 a8 a9 a10 a11
          go_wp2
          go_roundw
          case rel => exact ⟨k + 1, own8, L, by rw [HL.out]; omega, by go_num, D8, HN, by omega, R8, N8, U8⟩
          case measure => simp [intOf]; omega
        · have lk := Gm.look (T := strKey) 90 98 Try.underlying90 (zero_ptr w6) D6.out.map e.key false
          rw [hget] at lk
          change (Instr.lookup _ _ (.string e.key) false).run _ _ = .ok (.pointer none) _ at lk
          obtain ⟨w9, hs, hm9, hg9⟩ := Gm.store (T := strKey) 90 98 Try.underlying90 (D6.out.map.alloc (.cells Bk.nil6 102)) e.key (Bk.ptr w6.heap.size)
          have hml := D6.out.map.lt
          have HM9 := Lib.hid (show Gm strKey w9 w.heap.size ((L ++ [(e.key, w6.heap.size)]).map fun x => (x.1, Bk.ptr x.2)) by rw [Gm.put_new hget] at hm9; simpa using hm9)
          obtain ⟨own9, hd9, ho9, hg69⟩ := D6.out.add HH.out hnk HM9.out hg9
          have D9 := Lib.hid hd9
          have HN := Lib.hid (show HasK (L ++ [(e.key, w6.heap.size)]) es (es.take (k + 1)) by rw [TK.out]; exact HH.out.new HC.out _)
          have HM := Lib.hid (show (e.key, w6.heap.size) ∈ L ++ [(e.key, w6.heap.size)] by simp)
          have hne := R6.out
          have hnm : own w.heap.size = none := D6.out.hm
          have R9 := Lib.hid (R6.out.grown hg69 (fun q => by have := R6.out.hm; omega) (fun q => by have := R6.out.hs; omega) (fun q => by have := R6.out.h0; omega) (fun q => by have := R6.out.h1; omega))
          have N9 := Lib.hid (Dfs.noOwn NO.out ho9 R6.out.lts.1 R6.out.lts.2.1 R6.out.lts.2.2.1 R6.out.lts.2.2.2)
          have U9 := Lib.hid (below_by U6.out hg69 (Nat.le_refl _) (Nat.le_refl _))
          have E9 := Lib.hid (E6.out.grown hg69 (fun q => by injection q with q; omega))
          have F9 := Lib.hid (F6.out.grown hg69 (fun q => by injection q with q; omega))
          have WR1 := Lib.hid (WR.out own9 _ w6.heap.size w9 D9.out U9.out.size HM.out)
          have lk9 := Gm.look (T := strKey) 90 98 Try.underlying90 (zero_ptr w9) hm9 e.key false
          rw [Gm.get_put, if_pos rfl] at lk9
          change (Instr.lookup _ _ (.string e.key) false).run _ _ = .ok (.pointer (some ⟨w6.heap.size, 0, none⟩)) _ at lk9
          change (Instr.mapUpdate _ _ (.string e.key) (.pointer (some ⟨w6.heap.size, 0, none⟩))).run _ _ = _ at hs
          unfold Bk.nil6 at hs
          obtain ⟨c0, c1, c2, c3, c4, c5, c6, c7, c8, c9, c10, c11⟩ := E9.out.e12
          have f2 : w9.cell? ⟨W5.heap.size, 2, none⟩ = some (.func (.func 100) #[] #[]) := F9.out.cell rfl
          clear hm9 hg9 hd9 ho9 hg69 hne WR HH hget hnk D6 R6 U6 NO
          go_wp2_with fail
          refine WR1.out.mono ?_
          rintro x w8 ⟨rfl, hq⟩
          obtain ⟨own8, hd8, ho8, hm8⟩ := D9.out.step HM.out HC.out hq
          have D8 := Lib.hid (show Dfs w8 w.heap.size w.heap.size own8 (L ++ [(e.key, w6.heap.size)]) es (es.take (k + 1)) by rw [TK.out]; exact hd8)
          have R8 := Lib.hid (hm8.rul R9.out N9.out.1 N9.out.2.1 N9.out.2.2.1 N9.out.2.2.2)
          have N8 := Lib.hid (Dfs.noOwn N9.out ho8 R9.out.lts.1 R9.out.lts.2.1 R9.out.lts.2.2.1 R9.out.lts.2.2.2)
          have U8 := Lib.hid (Below.trans U9.out (hm8.below D9.out.low U9.out.size))
          clear hq hd8 ho8 hm8 WR1 lk lk9 hs f2 a0 a1 a2 a3 a4 a5 a6 a7 a8 a9 a10 a11 c0 c1 c2 c3 c4 c5 c6 c7 c8 c9 c10 c11
          go_wp2
          go_roundw
          case rel => exact ⟨k + 1, own8, _, by rw [HL.out]; omega, by go_num, D8, HN, by simp; omega, R8, N8, U8⟩
          case measure => simp [intOf]; omega
      · have hr : Bk.ruleOf bs b0 b1 e.k = Bk.norule := by
          unfold Bk.ruleOf Bk.rules
          simp only [Gm.get_cons, Gm.get_nil, k1, k3, k4, if_false]
          rfl
        have hd : Bk.ruled e.k = false := by simp [Bk.ruled, k1, k3, k4]
        rw [hr, hd] at lk
        unfold Bk.norule at lk
        have hc : Bk.cnt es e = false := by unfold Bk.cnt; rw [if_neg k1, if_neg k3, if_neg k4]
        have hbr : Lex.Up W5 (W5.alloc (.cells Bk.norule.cells 96)) := (Below.refl _ _).alloc (Nat.le_refl _) _
        have SK := Lib.hid (show Dfs (W5.alloc (.cells Bk.norule.cells 96)) w.heap.size w.heap.size own L es (es.take (k + 1)) by rw [TK.out]; exact (D5.out.up hbr).skip hc)
        have HN := Lib.hid (show HasK L es (es.take (k + 1)) by rw [TK.out]; exact HH.out.old (fun q => by rw [hc] at q; cases q))
        have R6 := Lib.hid (R5.out.up hbr)
        have U6 := Lib.hid (show Below w.heap.size w (W5.alloc (.cells Bk.norule.cells 96)) from Below.trans U5.out (hbr.mono U5.out.size))
        clear hr hd hc hbr k1 k3 k4 D5 R5 U5 HH
        go_wp2
        go_roundw
        case rel => exact ⟨k + 1, own, L, by rw [HL.out]; omega, by go_num, SK, HN, by omega, R6, NO, U6⟩
        case measure => simp [intOf]; omega
    · obtain rfl : k = n := by omega
      have DE := Lib.hid (show Dfs wr w.heap.size w.heap.size own L es es by have := DD.out; rwa [HE.out] at this)
      have HA := Lib.hid (show HasK L es es by have := HH.out; rwa [HE.out] at this)
      have HB := Lib.hid (show ∀ x ∈ L, x.1.size ≤ maxLen from fun x hx => by
        obtain ⟨e, he, _, hk⟩ := (HA.out x.1).1 (List.mem_map.2 ⟨x, hx, rfl⟩)
        rw [← hk]; exact HK.out e he)
      have CK := Lib.hid (fun w => keys_any (some w.heap.size) w)
      have CS := Lib.hid (sorted_any wr w.heap.size L DE.out.map HB.out (by omega))
      have hsw := DE.out.map.lt
      clear DD HH RR NO hbm hbs hb0 hb1 en1 en2 en3 en4 en5 en6 HK HB
      go_wp2_with fail
      refine (keys_any (some w.heap.size) wr).mono ?_
      rintro x w2 ⟨rfl, rfl⟩
      go_wp2_with fail
      refine CS.out.mono ?_
      rintro x w3 ⟨v3, rfl, hown3, hu3⟩
      obtain ⟨As, caps, rfl, hs3⟩ := Sl.of_own hown3
      go_wp2
      have hbs3 := hown3
      have KS := Lib.hid (show Bk.sortS (L.map (·.1)) = Bk.sortS (L.map (·.1)) from rfl)
      have hlen : (Bk.sortS (L.map (·.1))).length = L.length := by rw [Bk.sortS_len, List.length_map]
      have hmem : ∀ i, i < L.length → ∃ p, (Bk.key (Bk.sortS (L.map (·.1))) i, p) ∈ L := fun i hi => by
        have h1 := Bk.key_mem (ks := Bk.sortS (L.map (·.1))) (i := i) (by rw [hlen]; exact hi)
        have h2 := (Bk.sortS_perm (L.map (·.1))).mem_iff.1 h1
        obtain ⟨x, hx, e⟩ := List.mem_map.1 h2
        exact ⟨x.2, by rw [← e]; exact hx⟩
      have hnd : (Bk.sortS (L.map (·.1))).Nodup := (Bk.sortS_perm _).nodup_iff.2 DE.out.keys
      have hinj : ∀ i j, i < L.length → j < L.length → i ≠ j → Bk.key (Bk.sortS (L.map (·.1))) i ≠ Bk.key (Bk.sortS (L.map (·.1))) j := fun i j hi hj h => Bk.key_inj hnd (by rw [hlen]; exact hi) (by rw [hlen]; exact hj) h
      have LS := Lib.hid (show ∃ ls : List ByteArray, ls.Nodup ∧ (∀ key, key ∈ ls ↔ ∃ e ∈ es, Bk.cnt es e = true ∧ e.key = key) ∧ Bk.sortS (L.map (·.1)) = Bk.sortS ls from ⟨L.map (·.1), DE.out.keys, fun key => HA.out key, rfl⟩)
      have hA3 : ∀ a, As = some a → own a.block = none ∧ a.block < w3.heap.size := fun a ha => by
        subst ha
        have := hown3.lt a.block rfl
        exact ⟨DE.out.free _ this.1, this.2⟩
      have O3 := Lib.hid (show Of2 w3 es (Bk.sortS (L.map (·.1))) own L w.heap.size w3.heap.size (fun _ _ => .slice none 0 0) 0 (.slice none 0 0) from
        ⟨DE.out.map.up hu3, fun i _ _ p hp => by obtain ⟨vs, hd⟩ := DE.out.dr _ hp; exact ⟨vs, hd.up hu3⟩, World.ownsRow_nil _ _ _ _, fun i hi => absurd hi (by omega), Nat.le_refl _⟩)
      have S3 := Lib.hid hs3
      have U3 := Lib.hid (show Below w.heap.size w w3 from Below.trans UU.out (hu3.mono (Nat.le_of_lt hsw)))
      have HMm := Lib.hid hmem
      have HIn := Lib.hid hinj
      have HA3 := Lib.hid hA3
      have FRE := Lib.hid (show ∀ g, w3.heap.size ≤ g → own g = none from fun g hg => DE.out.free g (Nat.le_trans hu3.size hg))
      have OWS := Lib.hid DE.out.hm
      have LOW := Lib.hid DE.out.low
      have BLK := Lib.hid DE.out.blks
      have KEY := Lib.hid DE.out.keys
      have hsT : w.heap.size < w3.heap.size := Nat.lt_of_lt_of_le hsw hu3.size
      have hLe := HL.out
      clear hown3 hbs3 hu3 hs3 hmem hnd hinj hA3 CS CK DE HA KS UU
      generalize Bk.sortS (L.map (·.1)) = ks at *
      have HLN := Lib.hid hlen
      clear hlen hLe
      go_loopw [9, 60] (fun v9 v60 wr => OfRel2 es ks own L w.heap.size w3.heap.size As L.length caps w v9 v60 wr) (fun _ v60 _ => L.length - (intOf v60).toNat)
      case atStart => exact ⟨0, _, by omega, rfl, O3, S3, U3⟩
      case round =>
        clear O3 S3 U3
        obtain ⟨j, us, hj, rfl, OO, SS, UU⟩ := hrel
        by_cases h6 : j < L.length
        · have h6' : (j : Int) < L.length := by omega
          obtain ⟨bk, ok, rfl, hbk, hck⟩ := SS.out.2.2.2 (by omega)
          have ck := hck j (.string (Bk.key ks j)) (by
            unfold Bk.strV Bk.key
            rw [List.getElem?_map, List.getElem?_eq_getElem (by have := HLN.out; omega), List.getD, List.getElem?_eq_getElem (by have := HLN.out; omega)]; rfl)
          obtain ⟨p, hp⟩ := HMm.out j h6
          obtain ⟨vs, hd⟩ := OO.out.dr j (Nat.le_refl _) (by have := HLN.out; omega) p hp
          have lk := Gm.look (T := strKey) 90 98 Try.underlying90 (zero_ptr wr) OO.out.map (Bk.key ks j) false
          have hget : Gm.get (L.map fun x => (x.1, Bk.ptr x.2)) (Bk.key ks j) = some (Bk.ptr p) := by
            rcases get_ptr L (Bk.key ks j) with ⟨q, hq, e⟩ | ⟨hq, _⟩
            · rw [e]
              have : (Bk.key ks j, q) = (Bk.key ks j, p) := nodup_inj KEY.out hq hp rfl
              injection this with _ e2
              rw [e2]
            · exact absurd (List.mem_map.2 ⟨_, hp, rfl⟩) hq
          rw [hget] at lk
          change (Instr.lookup _ _ (.string (Bk.key ks j)) false).run _ _ = .ok (.pointer (some ⟨p, 0, none⟩)) _ at lk
          have CO := Lib.hid (contact_any w.heap.size p own vs (Bk.drOf es es (Bk.key ks j)) (Bk.key ks j) (fun l => Bk.fl es es (Bk.key ks j) l) (fun l => Bk.al es es (Bk.key ks j) l) wr hd (Bk.drOf_at es (Bk.key ks j)) (fun l _ => ⟨Nat.le_trans (List.length_filter_le _ _) (by have := HL.out; omega), Nat.le_trans (List.length_filter_le _ _) (by have := HL.out; omega)⟩))
          have HTG := Lib.hid (show ∀ l, l < 2 → ∀ g, (vs (4 + l)).ownBlock = some g → own g = some (p, 4 + l + 1) from fun l hl g hg => (hd.r (4 + l) (by omega)).2 g hg)
          have HP := Lib.hid hp
          have ltm := OO.out.map.lt
          clear hck hget hd hp
          go_wp2_with fail
          refine CO.out.mono ?_
          rintro x w6 ⟨u, rfl, hsets, hmod⟩
          obtain ⟨A0, p0, e0, -, -⟩ := hsets 0 (by omega)
          obtain ⟨A1, p1, e1, -, -⟩ := hsets 1 (by omega)
          have HS6 := Lib.hid hsets
          have M6 := Lib.hid hmod
          have O6 := Lib.hid (show w6.ownsRow w3.heap.size 51 7 u9 j (Bk.ctks es ks us j) from own_same OO.out.row (fun g hg => hmod.block g (OO.out.row.lt g hg).2 (fun i => by rw [FRE.out g (OO.out.row.lt g hg).1]; simp)))
          have ZS := Nat.le_trans OO.out.hT hmod.size
          have X1 := oneCell_ctk (es := es) (k := Bk.key ks j) ⟨_, _, _, e0⟩ ⟨_, _, _, e1⟩
          have S1 := Sl.of_blk (n := 1) (sz := 7) (Blk.new w6 (Bk.ctk es (Bk.key ks j) u).toArray 51) rfl (by omega)
          have EC := elemCt
          have hctk : Bk.ctk es (Bk.key ks j) u = [.string (Bk.key ks j), .bool (Bk.has (Bk.fl es es (Bk.key ks j) 0)), .bool (Bk.has (Bk.fl es es (Bk.key ks j) 1)), .string (Bk.field (Bk.fl es es (Bk.key ks j) 0)), .string (Bk.field (Bk.fl es es (Bk.key ks j) 1)), .slice A0 (Bk.set (Bk.al es es (Bk.key ks j) 0)).length p0, .slice A1 (Bk.set (Bk.al es es (Bk.key ks j) 1)).length p1] := by simp [Bk.ctk, Bk.ctc, e0, e1]
          have hctc : Bk.ctc (Bk.key ks j) (fun l => Bk.has (Bk.fl es es (Bk.key ks j) l)) (fun l => Bk.field (Bk.fl es es (Bk.key ks j) l)) u = #[.string (Bk.key ks j), .bool (Bk.has (Bk.fl es es (Bk.key ks j) 0)), .bool (Bk.has (Bk.fl es es (Bk.key ks j) 1)), .string (Bk.field (Bk.fl es es (Bk.key ks j) 0)), .string (Bk.field (Bk.fl es es (Bk.key ks j) 1)), .slice A0 (Bk.set (Bk.al es es (Bk.key ks j) 0)).length p0, .slice A1 (Bk.set (Bk.al es es (Bk.key ks j) 1)).length p1] := by simp [Bk.ctc, e0, e1]
          rw [hctc]
          rw [hctk] at S1
          have HCT := Lib.hid hctk
          have HX1 := Lib.hid X1
          have HS1 := Lib.hid S1
          have HO6 := Lib.hid (O6.out.alloc (.cells (Bk.ctk es (Bk.key ks j) u).toArray 51))
          rw [hctk] at HO6
          clear hsets hmod e0 e1 X1 S1 hctk hctc lk CO
          rw [HCT.out] at HX1
          have hb7 : w3.heap.size ≤ w6.heap.size + 1 := by omega
          have hjb : (j + 1) * 104 ≤ 140737488355328 := by omega
          have hjm : j + 1 ≤ maxLen := by simp only [maxLen]; omega
          clear ltm ck
          go_wp2_with (at_builtin; refine EC.wpList_append (by rfl) _ _ rfl w3.heap.size u9 j (Bk.ctks es ks us j) rfl HO6.out (some ⟨w6.heap.size, 0, none⟩) 1 1 _ rfl HS1.out HX1.out hjb hjm (by simp; exact hb7) ?_)
          intro v8 w8 hown8 hg8
          have HR8 := Lib.hid (show w8.ownsRow w3.heap.size 51 7 v8 (j + 1) (Bk.ctks es ks us j ++ Bk.ctk es (Bk.key ks j) u) from by rw [HCT.out]; exact hown8)
          have O8 := Lib.hid (OO.out.step HP.out M6.out HS6.out HTG.out HR8.out hg8 FRE.out OWS.out hsT BLK.out (fun i hi hij => HIn.out i j (by have := HLN.out; omega) h6 hij) (by have := HLN.out; omega))
          have S8 := Lib.hid (OO.out.keep_sl M6.out hg8 SS.out HA3.out)
          have U8 := Lib.hid (show Below w.heap.size w w8 from Below.trans UU.out (OO.out.below M6.out hg8 LOW.out (Nat.le_of_lt hsT)))
          clear hown8 hg8 OO SS UU HS6 M6 HO6 HS1 HX1 HCT HR8 hb7 hjb hjm
          go_wp2
          go_roundw
          case rel => exact ⟨j + 1, _, by have := HLN.out; omega, by go_num, O8, S8, U8⟩
          case measure => simp [intOf]; omega
        · obtain rfl : j = L.length := by have := HLN.out; omega
          have OO2 := OO.out
          rw [← HLN.out] at OO2
          have OF := Lib.hid OO2
          have SETS := Lib.hid (show ∀ i, i < ks.length → ∀ l, l < 2 → ∃ ob, SetAt wr (us i l) ob (Bk.set (Bk.al es es (Bk.key ks i) l)) from fun i hi l hl => by obtain ⟨ob, q, h1, _, _⟩ := OF.out.sets i hi l hl; exact ⟨ob, h1⟩)
          obtain ⟨A9, cap9, rfl, hs9⟩ := Sl.of_own OF.out.row
          have HS9 := Lib.hid hs9
          clear OO OO2 hs9
          go_wp2
          go_ret
          exact ⟨_, ks, rfl, ⟨A9, cap9, us, rfl, HS9.out, SETS.out⟩, LS.out, UU.out⟩
end Go.Proofs.Ytolpfchnfhdhkaa
