/-
  Plain facts on the sum of bytes (a register that moves bit by bit), with no program: it is linear, one to one, and no burst of 32 bits escapes it.
-/
namespace Go.Proofs.Ythgfbnkggdlokaa
namespace Cr

/-- The register one bit further. -/
def sh (r : Nat) : Nat := if r % 2 = 1 then (r / 2) ^^^ 3988292384 else r / 2
def shN : Nat → Nat → Nat
  | 0, r => r
  | k + 1, r => shN k (sh r)
def step (r c : Nat) : Nat := shN 8 (r ^^^ c)
def reg (r : Nat) (l : List Nat) : Nat := l.foldl step r
def sum (l : List Nat) : Nat := 4294967295 - reg 4294967295 l
def tail (n : Nat) : List Nat := [n % 256, n / 256 % 256, n / 65536 % 256, n / 16777216 % 256]
def sealed (l : List Nat) : List Nat := l ++ tail (sum l)
/-- Bytes that end with the sum of what is ahead. -/
def opens (l : List Nat) : Bool := decide (4 ≤ l.length) && decide (l.drop (l.length - 4) = tail (sum (l.take (l.length - 4))))
/-- Bytes as one number, the lowest byte first. -/
def le : List Nat → Nat
  | [] => 0
  | c :: l => c + 256 * le l

theorem xor_zero_iff {a b : Nat} (h : a ^^^ b = 0) : a = b := by
  apply Nat.eq_of_testBit_eq
  intro i
  have := congrArg (fun x => x.testBit i) h
  simp [Nat.testBit_xor] at this
  exact this
theorem xor_assoc' (a b : Nat) : a ^^^ b ^^^ b = a := by rw [Nat.xor_assoc, Nat.xor_self, Nat.xor_zero]
theorem xor_mod2 (a b : Nat) : (a ^^^ b) % 2 = (a + b) % 2 := by
  have h1 : (a ^^^ b).testBit 0 = (a.testBit 0 ^^ b.testBit 0) := Nat.testBit_xor a b 0
  simp only [Nat.testBit_zero] at h1
  have hx := Nat.mod_two_eq_zero_or_one (a ^^^ b)
  rcases Nat.mod_two_eq_zero_or_one a with ha | ha <;> rcases Nat.mod_two_eq_zero_or_one b with hb | hb <;> rcases hx with hx | hx <;> simp [ha, hb, hx] at h1 <;> omega
theorem sh_xor (a b : Nat) : sh (a ^^^ b) = sh a ^^^ sh b := by
  have hm := xor_mod2 a b
  unfold sh
  rcases Nat.mod_two_eq_zero_or_one a with ha | ha <;> rcases Nat.mod_two_eq_zero_or_one b with hb | hb
  · rw [if_neg (by omega), if_neg (by omega), if_neg (by omega), Nat.xor_div_two]
  · rw [if_pos (by omega), if_neg (by omega), if_pos (by omega), Nat.xor_div_two, Nat.xor_assoc]
  · rw [if_pos (by omega), if_pos (by omega), if_neg (by omega), Nat.xor_div_two, Nat.xor_assoc, Nat.xor_assoc, Nat.xor_comm (b / 2)]
  · rw [if_neg (by omega), if_pos (by omega), if_pos (by omega), Nat.xor_div_two]
    rw [Nat.xor_comm (b / 2), ← Nat.xor_assoc, xor_assoc']
theorem shN_xor (k : Nat) : ∀ a b, shN k (a ^^^ b) = shN k a ^^^ shN k b := by
  induction k with
  | zero => intro a b; rfl
  | succ k ih => intro a b; rw [shN, shN, shN, sh_xor, ih]
theorem shN_add (j k r : Nat) : shN (j + k) r = shN k (shN j r) := by
  induction j generalizing r with
  | zero => simp [shN]
  | succ j ih => rw [show j + 1 + k = (j + k) + 1 by omega, shN, shN, ih]
theorem sh_lt {r : Nat} (h : r < 4294967296) : sh r < 4294967296 := by
  unfold sh
  split
  · exact Nat.xor_lt_two_pow (n := 32) (by omega) (by decide)
  · omega
theorem shN_lt (k : Nat) : ∀ {r : Nat}, r < 4294967296 → shN k r < 4294967296 := by
  induction k with
  | zero => intro r h; exact h
  | succ k ih => intro r h; rw [shN]; exact ih (sh_lt h)
theorem sh_zero {r : Nat} (h : r < 4294967296) (hz : sh r = 0) : r = 0 := by
  unfold sh at hz
  split at hz
  · have := xor_zero_iff hz
    omega
  · omega
theorem shN_zero (k : Nat) : ∀ {r : Nat}, r < 4294967296 → shN k r = 0 → r = 0 := by
  induction k with
  | zero => intro r _ h; exact h
  | succ k ih => intro r h hz; rw [shN] at hz; exact sh_zero h (ih (sh_lt h) hz)
theorem xor_lt {a b : Nat} (ha : a < 4294967296) (hb : b < 4294967296) : a ^^^ b < 4294967296 := Nat.xor_lt_two_pow (n := 32) ha hb
theorem shN_inj (k : Nat) {a b : Nat} (ha : a < 4294967296) (hb : b < 4294967296) (h : shN k a = shN k b) : a = b := by
  apply xor_zero_iff
  apply shN_zero k (xor_lt ha hb)
  rw [shN_xor, h, Nat.xor_self]
theorem shN_zero_zero (k : Nat) : shN k 0 = 0 := by
  induction k with
  | zero => rfl
  | succ k ih => rw [shN]; simpa [sh] using ih
theorem shN_mul (k m : Nat) : shN k (2 ^ k * m) = m := by
  induction k with
  | zero => simp [shN]
  | succ k ih =>
    rw [shN]
    have e : 2 ^ (k + 1) * m = 2 * (2 ^ k * m) := by rw [Nat.pow_succ, Nat.mul_comm (2 ^ k) 2, Nat.mul_assoc]
    have : sh (2 ^ (k + 1) * m) = 2 ^ k * m := by
      rw [e]; unfold sh
      rw [if_neg (by omega)]; omega
    rw [this, ih]
theorem add_xor {k b : Nat} (hb : b < 2 ^ k) (a : Nat) : 2 ^ k * a + b = 2 ^ k * a ^^^ b := by
  apply Nat.eq_of_testBit_eq
  intro i
  rw [Nat.testBit_two_pow_mul_add a hb, Nat.testBit_xor, Nat.testBit_two_pow_mul]
  by_cases h : i < k
  · simp [h, show ¬ k ≤ i by omega]
  · have hz : b.testBit i = false := Nat.testBit_lt_two_pow (Nat.lt_of_lt_of_le hb (Nat.pow_le_pow_right (by omega) (by omega)))
    have hk : k ≤ i := by omega
    simp [h, hz, hk]

theorem step_lt {r c : Nat} (hr : r < 4294967296) (hc : c < 256) : step r c < 4294967296 := shN_lt 8 (xor_lt hr (by omega))
theorem step_reg {r c c' : Nat} (hr : r < 4294967296) (hc : c < 256) (hc' : c' < 256) : step r c = step r c' ↔ c = c' := by
  constructor
  · intro h
    have := shN_inj 8 (xor_lt hr (by omega)) (xor_lt hr (by omega)) h
    have h2 := congrArg (fun x => r ^^^ x) this
    simpa [← Nat.xor_assoc] using h2
  · rintro rfl; rfl
theorem step_byte {r r' c : Nat} (hr : r < 4294967296) (hr' : r' < 4294967296) (hc : c < 256) : step r c = step r' c ↔ r = r' := by
  constructor
  · intro h
    have := shN_inj 8 (xor_lt hr (by omega)) (xor_lt hr' (by omega)) h
    have h2 := congrArg (fun x => x ^^^ c) this
    simpa [xor_assoc'] using h2
  · rintro rfl; rfl
theorem reg_cons (r c : Nat) (l : List Nat) : reg r (c :: l) = reg (step r c) l := by unfold reg; rw [List.foldl_cons]
theorem reg_nil (r : Nat) : reg r [] = r := by unfold reg; rw [List.foldl_nil]
theorem le_cons (c : Nat) (l : List Nat) : le (c :: l) = c + 256 * le l := by rw [le]
theorem reg_lt (l : List Nat) : ∀ {r : Nat}, r < 4294967296 → (∀ x ∈ l, x < 256) → reg r l < 4294967296 := by
  induction l with
  | nil => intro r h _; rw [reg_nil]; exact h
  | cons c l ih =>
    intro r h hl
    rw [reg_cons]
    have hc := hl c (by simp)
    have h2 : ∀ x ∈ l, x < 256 := fun x hx => hl x (by simp [hx])
    have h1 := step_lt h hc
    generalize step r c = q at *
    exact ih h1 h2
theorem reg_append (a b : List Nat) : ∀ r, reg r (a ++ b) = reg (reg r a) b := by
  induction a with
  | nil => intro r; rw [List.nil_append, reg_nil]
  | cons c a ih => intro r; rw [List.cons_append, reg_cons, reg_cons, ih]
theorem le_lt (l : List Nat) : (∀ x ∈ l, x < 256) → le l < 2 ^ (8 * l.length) := by
  induction l with
  | nil => intro _; simp [le]
  | cons c l ih =>
    intro h
    have ih := ih fun x hx => h x (by simp [hx])
    have hc := h c (by simp)
    rw [le_cons, List.length_cons, show 8 * (l.length + 1) = 8 + 8 * l.length by omega, Nat.pow_add]
    generalize 2 ^ (8 * l.length) = p at *
    generalize le l = q at *
    have : (2 : Nat) ^ 8 = 256 := by decide
    rw [this]
    omega
/-- All bytes are one number, moved bit by bit. -/
theorem reg_le (l : List Nat) : ∀ (r : Nat), (∀ x ∈ l, x < 256) → reg r l = shN (8 * l.length) (r ^^^ le l) := by
  induction l with
  | nil => intro r _; rw [reg_nil, le, List.length_nil, Nat.mul_zero, shN, Nat.xor_zero]
  | cons c l ih =>
    intro r h
    have hc : c < 2 ^ 8 := h c (by simp)
    rw [reg_cons, ih _ fun x hx => h x (by simp [hx]), le_cons, List.length_cons, show 8 * (l.length + 1) = 8 + 8 * l.length by omega, shN_add]
    have e : c + 256 * le l = 2 ^ 8 * le l ^^^ c := by rw [← add_xor hc]; generalize le l = q; omega
    rw [e, Nat.xor_comm (2 ^ 8 * le l), ← Nat.xor_assoc, shN_xor 8 (r ^^^ c), shN_mul, step]
theorem tail_le {n : Nat} (h : n < 4294967296) : le (tail n) = n := by simp only [tail, le]; omega
theorem tail_lt (n : Nat) : ∀ x ∈ tail n, x < 256 := by intro x hx; simp [tail] at hx; omega
theorem tail_len (n : Nat) : (tail n).length = 4 := rfl
theorem sum_lt (l : List Nat) : sum l < 4294967296 := by unfold sum; omega
theorem not_xor {r : Nat} (h : r < 4294967296) : 4294967295 - r = r ^^^ 4294967295 := by
  have h1 : r ^^^ (4294967295 - r) = 4294967295 := by
    apply Nat.eq_of_testBit_eq
    intro i
    have e : 4294967295 - r = 2 ^ 32 - (r + 1) := by omega
    rw [e, Nat.testBit_xor, Nat.testBit_two_pow_sub_succ h]
    rw [show (4294967295 : Nat) = 2 ^ 32 - 1 by decide, Nat.testBit_two_pow_sub_one]
    by_cases hi : i < 32
    · simp [hi]
    · have hz : r.testBit i = false := Nat.testBit_lt_two_pow (Nat.lt_of_lt_of_le h (Nat.pow_le_pow_right (n := 2) (by omega) (show 32 ≤ i by omega)))
      simp [hi, hz]
  calc 4294967295 - r = r ^^^ (r ^^^ (4294967295 - r)) := by rw [← Nat.xor_assoc, Nat.xor_self, Nat.zero_xor]
    _ = _ := by rw [h1]
theorem tail_of (t : List Nat) (hlt : t.length = 4) (ht : ∀ x ∈ t, x < 256) {n : Nat} (h2 : le t = n) : t = tail n := by
  rcases t with _ | ⟨a, _ | ⟨b, _ | ⟨c, _ | ⟨d, _ | ⟨e, t⟩⟩⟩⟩⟩
  all_goals simp at hlt
  have ha := ht a (by simp)
  have hb := ht b (by simp)
  have hc := ht c (by simp)
  have hd := ht d (by simp)
  simp only [le] at h2
  simp only [tail, List.cons.injEq, and_true]
  omega
def rest : Nat := shN 32 4294967295
theorem rest_is : 4294967295 - rest = 558161692 := by decide
theorem reg_tail {r n : Nat} (hn : n < 4294967296) : reg r (tail n) = shN 32 (r ^^^ n) := by
  rw [reg_le _ _ (tail_lt n), tail_le hn]; rfl
/-- Bytes open just if their register ends at the one number. -/
theorem opens_iff (l : List Nat) (hl : ∀ x ∈ l, x < 256) : opens l = true ↔ 4 ≤ l.length ∧ reg 4294967295 l = rest := by
  unfold opens
  simp only [Bool.and_eq_true, decide_eq_true_eq]
  refine and_congr_right fun h4 => ?_
  have hb : ∀ x ∈ l.take (l.length - 4), x < 256 := fun x hx => hl x (List.mem_of_mem_take hx)
  have ht : ∀ x ∈ l.drop (l.length - 4), x < 256 := fun x hx => hl x (List.mem_of_mem_drop hx)
  have hlt : (l.drop (l.length - 4)).length = 4 := by rw [List.length_drop]; omega
  have e : reg 4294967295 l = reg (reg 4294967295 (l.take (l.length - 4))) (l.drop (l.length - 4)) := by
    rw [← reg_append, List.take_append_drop]
  have hr := reg_lt _ (r := 4294967295) (by omega) hb
  rw [e]
  unfold sum
  generalize reg 4294967295 (l.take (l.length - 4)) = r at *
  generalize l.drop (l.length - 4) = t at *
  have htl : le t < 4294967296 := by have := le_lt t ht; rw [hlt] at this; exact this
  have key : r ^^^ (4294967295 - r) = 4294967295 := by rw [not_xor hr, ← Nat.xor_assoc, Nat.xor_self, Nat.zero_xor]
  constructor
  · rintro rfl
    rw [reg_tail (by omega), key]; rfl
  · intro hreg
    rw [reg_le _ _ ht, hlt] at hreg
    have h1 := shN_inj 32 (xor_lt hr htl) (by omega) hreg
    have h2 : le t = 4294967295 - r := by
      have := congrArg (fun x => r ^^^ x) (h1.trans key.symm)
      simpa [← Nat.xor_assoc] using this
    clear hreg h1 key e
    exact tail_of t hlt ht h2
theorem sealed_lt {l : List Nat} (hl : ∀ x ∈ l, x < 256) : ∀ x ∈ sealed l, x < 256 := by
  intro x hx
  rcases List.mem_append.1 hx with h | h
  · exact hl x h
  · exact tail_lt _ x h
theorem sealed_len (l : List Nat) : (sealed l).length = l.length + 4 := by simp [sealed, tail_len]
theorem opens_sealed (l : List Nat) : opens (sealed l) = true := by
  have e : (sealed l).length - 4 = l.length := by rw [sealed_len]; omega
  unfold opens
  rw [e, sealed_len]
  simp [sealed]
theorem sealed_take (l : List Nat) : (sealed l).take ((sealed l).length - 4) = l := by
  have e : (sealed l).length - 4 = l.length := by rw [sealed_len]; omega
  rw [e]; simp [sealed]
theorem sum_sealed {l : List Nat} (hl : ∀ x ∈ l, x < 256) : sum (sealed l) = 558161692 := by
  have := ((opens_iff _ (sealed_lt hl)).1 (opens_sealed l)).2
  unfold sum
  rw [this, rest_is]
theorem opens_seal (l : List Nat) : opens l = decide (4 ≤ l.length ∧ sealed (l.take (l.length - 4)) = l) := by
  have e : (l.drop (l.length - 4) = tail (sum (l.take (l.length - 4)))) ↔ (l.take (l.length - 4) ++ tail (sum (l.take (l.length - 4))) = l) := by
    generalize hk : l.length - 4 = k
    generalize tail (sum (l.take k)) = t
    constructor
    · intro h
      rw [← h, List.take_append_drop]
    · intro h
      have h2 : l.take k ++ t = l.take k ++ l.drop k := by rw [h, List.take_append_drop]
      exact (List.append_cancel_left h2).symm
  unfold opens sealed
  rw [Bool.eq_iff_iff]
  simp only [Bool.and_eq_true, decide_eq_true_eq, e]
/-- The sums of three rows, and of what they are together. -/
theorem sum_three {a b c d : List Nat} (ha : ∀ x ∈ a, x < 256) (hb : ∀ x ∈ b, x < 256) (hc : ∀ x ∈ c, x < 256) (hd : ∀ x ∈ d, x < 256)
    (h1 : b.length = a.length) (h2 : c.length = a.length) (h3 : d.length = a.length) (h : le d = le a ^^^ le b ^^^ le c) : sum a ^^^ sum b ^^^ sum c = sum d := by
  unfold sum
  rw [not_xor (reg_lt _ (by omega) ha), not_xor (reg_lt _ (by omega) hb), not_xor (reg_lt _ (by omega) hc), not_xor (reg_lt _ (by omega) hd)]
  rw [reg_le _ _ ha, reg_le _ _ hb, reg_le _ _ hc, reg_le _ _ hd, h1, h2, h3, h]
  simp only [shN_xor]
  generalize shN (8 * a.length) 4294967295 = f
  generalize shN (8 * a.length) (le a) = x
  generalize shN (8 * a.length) (le b) = y
  generalize shN (8 * a.length) (le c) = z
  apply Nat.eq_of_testBit_eq
  intro i
  simp only [Nat.testBit_xor]
  cases f.testBit i <;> cases x.testBit i <;> cases y.testBit i <;> cases z.testBit i <;> cases (4294967295 : Nat).testBit i <;> rfl
/-- No burst of 32 bits escapes. -/
theorem burst {s t : List Nat} {m k : Nat} (hs : ∀ x ∈ s, x < 256) (ht : ∀ x ∈ t, x < 256) (hl : t.length = s.length) (hm : m < 4294967296) (h : le t = le s ^^^ 2 ^ k * m) (hk : k ≤ 8 * s.length)
    (h1 : opens s = true) (h2 : opens t = true) : m = 0 := by
  have e1 := ((opens_iff _ hs).1 h1).2
  have e2 := ((opens_iff _ ht).1 h2).2
  rw [reg_le _ _ hs] at e1
  rw [reg_le _ _ ht, hl, h, ← Nat.xor_assoc, shN_xor, e1] at e2
  have e3 : shN (8 * s.length) (2 ^ k * m) = 0 := by
    have := congrArg (fun x => rest ^^^ x) e2
    simpa [← Nat.xor_assoc] using this
  rw [show 8 * s.length = k + (8 * s.length - k) by omega, shN_add, shN_mul] at e3
  exact shN_zero _ hm e3
theorem le_inj (s : List Nat) : ∀ (t : List Nat), (∀ x ∈ s, x < 256) → (∀ x ∈ t, x < 256) → t.length = s.length → le t = le s → t = s := by
  induction s with
  | nil => intro t _ _ h _; exact List.eq_nil_of_length_eq_zero h
  | cons c s ih =>
    intro t hs ht h e
    cases t with
    | nil => simp at h
    | cons d t =>
      have hc := hs c (by simp)
      have hd := ht d (by simp)
      have ih := ih t (fun x hx => hs x (by simp [hx])) (fun x hx => ht x (by simp [hx])) (by simpa using h)
      rw [le_cons, le_cons] at e
      generalize le t = p at *
      generalize le s = q at *
      rw [ih (by omega), show d = c by omega]
/-- A byte that is changed by some bits. -/
theorem le_set (l : List Nat) : ∀ (j b : Nat), j < l.length → (∀ x ∈ l, x < 256) → b < 256 → le (l.set j (l.getD j 0 ^^^ b)) = le l ^^^ 2 ^ (8 * j) * b := by
  induction l with
  | nil => intro j b h; simp at h
  | cons c l ih =>
    intro j b h hl hb
    have hc := hl c (by simp)
    cases j with
    | zero =>
      have e1 : ∀ x, x < 256 → x + 256 * le l = 2 ^ 8 * le l ^^^ x := fun x hx => by rw [← add_xor (k := 8) hx]; generalize le l = q; omega
      have hx : c ^^^ b < 256 := Nat.xor_lt_two_pow (n := 8) hc hb
      simp only [List.set_cons_zero, List.getD_cons_zero, le_cons, Nat.mul_zero, Nat.pow_zero, Nat.one_mul]
      rw [e1 _ hx, e1 _ hc, Nat.xor_assoc]
    | succ j =>
      have ih := ih j b (by simpa using h) (fun x hx => hl x (by simp [hx])) hb
      have e1 : ∀ y, c + 256 * y = 2 ^ 8 * y ^^^ c := fun y => by rw [← add_xor (k := 8) hc]; omega
      simp only [List.set_cons_succ, List.getD_cons_succ, le_cons]
      rw [ih, e1, e1]
      have e2 : 2 ^ 8 * (le l ^^^ 2 ^ (8 * j) * b) = 2 ^ 8 * le l ^^^ 2 ^ (8 * (j + 1)) * b := by
        have h1 := @Nat.shiftLeft_xor_distrib 8 (le l) (2 ^ (8 * j) * b)
        simp only [Nat.shiftLeft_eq] at h1
        rw [Nat.mul_comm (2 ^ 8), h1, Nat.mul_comm _ (2 ^ 8), show 8 * (j + 1) = 8 + 8 * j by omega, Nat.pow_add, Nat.mul_comm _ (2 ^ 8), Nat.mul_assoc]
      rw [e2, Nat.xor_assoc, Nat.xor_assoc, Nat.xor_comm c]
end Cr
end Go.Proofs.Ythgfbnkggdlokaa
