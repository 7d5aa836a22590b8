/- Plain mathematics of sets of numbers from 0 to 127 as two words of 64 bits; no program in it. -/
import Derived.Lib.TrailingZeros
namespace Go.Proofs.YtkoedgmfjpcocaaDoor.Words

/-- The number whose bit j is p j, for j below n. -/
def wdN : Nat → (Nat → Bool) → Nat
  | 0, _ => 0
  | n + 1, p => wdN n p + if p n then 2 ^ n else 0
theorem wdN_lt (p : Nat → Bool) : ∀ n, wdN n p < 2 ^ n
  | 0 => by simp [wdN]
  | n + 1 => by
    have := wdN_lt p n
    simp only [wdN, Nat.pow_succ]
    split <;> omega
theorem wdN_bit (p : Nat → Bool) : ∀ n j, (wdN n p).testBit j = (decide (j < n) && p j)
  | 0, j => by simp [wdN]
  | n + 1, j => by
    have hlt := wdN_lt p n
    simp only [wdN]
    by_cases hp : p n
    · rw [if_pos hp, Nat.add_comm, show 2 ^ n + wdN n p = 2 ^ n * 1 + wdN n p by omega, Nat.testBit_two_pow_mul_add 1 hlt, wdN_bit p n j]
      by_cases h : j < n
      · simp [h, Nat.lt_succ_of_lt h]
      · by_cases e : j = n
        · subst e; simp [hp]
        · have h2 : ¬ j < n + 1 := by omega
          simp only [h, if_false, h2, decide_false, Bool.false_and]
          exact Nat.testBit_lt_two_pow (Nat.one_lt_two_pow (by omega))
    · rw [if_neg hp, Nat.add_zero, wdN_bit p n j]
      by_cases h : j < n
      · simp [h, Nat.lt_succ_of_lt h]
      · by_cases e : j = n
        · subst e; simp [hp]
        · have h2 : ¬ j < n + 1 := by omega
          simp [h, h2]
theorem wdN_congr {p q : Nat → Bool} {n : Nat} (h : ∀ j, j < n → p j = q j) : wdN n p = wdN n q := by
  apply Nat.eq_of_testBit_eq
  intro j
  rw [wdN_bit, wdN_bit]
  by_cases hj : j < n
  · simp [h j hj]
  · simp [hj]
theorem wdN_inj {p q : Nat → Bool} {n : Nat} (h : wdN n p = wdN n q) : ∀ j, j < n → p j = q j := by
  intro j hj
  have := congrArg (·.testBit j) h
  simp only [wdN_bit] at this
  simpa [hj] using this
theorem wdN_or (p q : Nat → Bool) (n : Nat) : wdN n p ||| wdN n q = wdN n (fun j => p j || q j) := by
  apply Nat.eq_of_testBit_eq
  intro j
  rw [Nat.testBit_or, wdN_bit, wdN_bit, wdN_bit]
  by_cases hj : j < n <;> simp [hj]
theorem wdN_and (p q : Nat → Bool) (n : Nat) : wdN n p &&& wdN n q = wdN n (fun j => p j && q j) := by
  apply Nat.eq_of_testBit_eq
  intro j
  rw [Nat.testBit_and, wdN_bit, wdN_bit, wdN_bit]
  by_cases hj : j < n <;> simp [hj]
theorem wdN_not (q : Nat → Bool) (n : Nat) : 2 ^ n - 1 - wdN n q = wdN n (fun j => !q j) := by
  apply Nat.eq_of_testBit_eq
  intro j
  have h := wdN_lt q n
  rw [show 2 ^ n - 1 - wdN n q = 2 ^ n - (wdN n q + 1) by omega, Nat.testBit_two_pow_sub_succ h, wdN_bit, wdN_bit]
  by_cases hj : j < n <;> simp [hj]
theorem wdN_one {n k : Nat} (hk : k < n) : 2 ^ k = wdN n (fun j => decide (j = k)) := by
  apply Nat.eq_of_testBit_eq
  intro j
  rw [Nat.testBit_two_pow, wdN_bit]
  by_cases hj : j = k
  · subst hj; simp [hk]
  · simp [hj, Ne.symm hj]
theorem wdN_zero {p : Nat → Bool} {n : Nat} : wdN n p = 0 ↔ ∀ j, j < n → p j = false := by
  constructor
  · intro h j hj
    have := wdN_bit p n j
    rw [h] at this
    simpa [hj] using this.symm
  · intro h
    apply Nat.eq_of_testBit_eq
    intro j
    rw [wdN_bit]
    by_cases hj : j < n
    · simp [h j hj]
    · simp [hj]

/-! ### How many bits are set. -/
/-- How many of the lowest n bits. -/
def cnt (n x : Nat) : Nat := (List.range n).countP x.testBit
theorem cnt_step {b t n : Nat} (hb : b < 256) : cnt (8 + n) (b + 256 * t) = cnt 8 b + cnt n t := by
  unfold cnt
  rw [List.range_add, List.countP_append, List.countP_map]
  have e : b + 256 * t = 2 ^ 8 * t + b := by omega
  congr 1
  · apply List.countP_congr
    intro j hj
    rw [e, Nat.testBit_two_pow_mul_add t (by omega), if_pos (by simpa using hj)]
  · apply List.countP_congr
    intro j hj
    simp only [Function.comp]
    rw [e, Nat.testBit_two_pow_mul_add t (by omega), if_neg (by omega), Nat.add_sub_cancel_left]

def m1 : Nat → Nat | 0 => 0 | k + 1 => 0x55 + 256 * m1 k
def m2 : Nat → Nat | 0 => 0 | k + 1 => 0x33 + 256 * m2 k
def m3 : Nat → Nat | 0 => 0 | k + 1 => 0x0f + 256 * m3 k
def f1 (k x : Nat) : Nat := (x / 2 &&& m1 k) + (x &&& m1 k)
def f2 (k x : Nat) : Nat := (x / 4 &&& m2 k) + (x &&& m2 k)
def f3 (k x : Nat) : Nat := (x / 16 + x) &&& m3 k
def s1 (b : Nat) : Nat := (b / 2 &&& 0x55) + (b &&& 0x55)
def s2 (b : Nat) : Nat := (b / 4 &&& 0x33) + (b &&& 0x33)
def s3 (b : Nat) : Nat := (b / 16 + b) &&& 0x0f
theorem and_step {b t c d : Nat} (hb : b < 256) (hc : c < 256) : (b + 256 * t) &&& (c + 256 * d) = (b &&& c) + 256 * (t &&& d) := by
  have hbc : b &&& c < 2 ^ 8 := Nat.and_lt_two_pow _ hc
  apply Nat.eq_of_testBit_eq
  intro j
  rw [Nat.testBit_and, show b + 256 * t = 2 ^ 8 * t + b by omega, show c + 256 * d = 2 ^ 8 * d + c by omega, show (b &&& c) + 256 * (t &&& d) = 2 ^ 8 * (t &&& d) + (b &&& c) by omega,
    Nat.testBit_two_pow_mul_add t (by omega), Nat.testBit_two_pow_mul_add d (by omega), Nat.testBit_two_pow_mul_add _ hbc]
  split <;> rw [Nat.testBit_and]
theorem k1 : ∀ b, b < 256 → ∀ r, r < 2 → (b / 2 + 128 * r) &&& 0x55 = b / 2 &&& 0x55 := by decide +kernel
theorem k2 : ∀ b, b < 256 → ∀ r, r < 4 → (b / 4 + 64 * r) &&& 0x33 = b / 4 &&& 0x33 := by decide +kernel
theorem f1_step {b t k : Nat} (hb : b < 256) : f1 (k + 1) (b + 256 * t) = s1 b + 256 * f1 k t := by
  have e : (b + 256 * t) / 2 = (b / 2 + 128 * (t % 2)) + 256 * (t / 2) := by omega
  simp only [f1, m1, s1]
  rw [e, and_step (by omega) (by omega), and_step hb (by omega), k1 b hb _ (by omega)]
  omega
theorem f2_step {b t k : Nat} (hb : b < 256) : f2 (k + 1) (b + 256 * t) = s2 b + 256 * f2 k t := by
  have e : (b + 256 * t) / 4 = (b / 4 + 64 * (t % 4)) + 256 * (t / 4) := by omega
  simp only [f2, m2, s2]
  rw [e, and_step (by omega) (by omega), and_step hb (by omega), k2 b hb _ (by omega)]
  omega
theorem k3 : ∀ b, b < 69 → ∀ r, r < 5 → (b / 16 + b + 16 * r) &&& 0x0f = (b / 16 + b) &&& 0x0f := by decide +kernel
theorem f3_step {b t k : Nat} (hb : b < 69) (ht : t % 16 < 5) : f3 (k + 1) (b + 256 * t) = s3 b + 256 * f3 k t := by
  have e : (b + 256 * t) / 16 + (b + 256 * t) = (b / 16 + b + 16 * (t % 16)) + 256 * (t / 16 + t) := by omega
  simp only [f3, m3, s3]
  rw [e, and_step (by omega) (by omega), k3 b hb _ ht]
theorem s12 : ∀ b, b < 256 → s1 b < 256 ∧ s2 (s1 b) < 69 ∧ s2 (s1 b) % 16 < 5 ∧ s3 (s2 (s1 b)) = cnt 8 b := by decide +kernel
def g (k x : Nat) : Nat := f3 k (f2 k (f1 k x))
theorem f12_mod (k t : Nat) : f2 k (f1 k t) % 16 < 5 := by
  cases k with
  | zero => simp [f2, m2]
  | succ k =>
    have e : t = t % 256 + 256 * (t / 256) := by omega
    obtain ⟨h1, h2, h3, _⟩ := s12 (t % 256) (by omega)
    rw [e, f1_step (by omega), f2_step h1]
    omega
theorem g_step {b t k : Nat} (hb : b < 256) : g (k + 1) (b + 256 * t) = cnt 8 b + 256 * g k t := by
  obtain ⟨h1, h2, h3, h4⟩ := s12 b hb
  unfold g
  rw [f1_step hb, f2_step h1, f3_step h2 (f12_mod k t), h4]
theorem cnt_le (n x : Nat) : cnt n x ≤ n := by
  unfold cnt
  have := List.countP_le_length (p := x.testBit) (l := List.range n)
  simpa using this
theorem bytes (x : Nat) (hx : x < 18446744073709551616) : ∃ c0 c1 c2 c3 c4 c5 c6 c7, c0 ≤ 8 ∧ c1 ≤ 8 ∧ c2 ≤ 8 ∧ c3 ≤ 8 ∧ c4 ≤ 8 ∧ c5 ≤ 8 ∧ c6 ≤ 8 ∧ c7 ≤ 8 ∧
    g 8 x = c0 + 256 * (c1 + 256 * (c2 + 256 * (c3 + 256 * (c4 + 256 * (c5 + 256 * (c6 + 256 * c7)))))) ∧ cnt 64 x = c0 + (c1 + (c2 + (c3 + (c4 + (c5 + (c6 + c7)))))) := by
  have h (y : Nat) : ∃ b t, b < 256 ∧ y = b + 256 * t ∧ t = y / 256 := ⟨y % 256, y / 256, by omega, by omega, rfl⟩
  obtain ⟨b0, t0, h0, rfl, e0⟩ := h x
  obtain ⟨b1, t1, h1, rfl, e1⟩ := h t0
  obtain ⟨b2, t2, h2, rfl, e2⟩ := h t1
  obtain ⟨b3, t3, h3, rfl, e3⟩ := h t2
  obtain ⟨b4, t4, h4, rfl, e4⟩ := h t3
  obtain ⟨b5, t5, h5, rfl, e5⟩ := h t4
  obtain ⟨b6, t6, h6, rfl, e6⟩ := h t5
  obtain ⟨b7, t7, h7, rfl, e7⟩ := h t6
  have h8 : t7 = 0 := by omega
  subst h8
  clear e0 e1 e2 e3 e4 e5 e6 e7 h
  have z : g 0 0 = 0 := rfl
  have z2 : cnt 0 0 = 0 := rfl
  refine ⟨cnt 8 b0, cnt 8 b1, cnt 8 b2, cnt 8 b3, cnt 8 b4, cnt 8 b5, cnt 8 b6, cnt 8 b7, cnt_le _ _, cnt_le _ _, cnt_le _ _, cnt_le _ _, cnt_le _ _, cnt_le _ _, cnt_le _ _, cnt_le _ _, ?_, ?_⟩
  · rw [g_step h0, g_step h1, g_step h2, g_step h3, g_step h4, g_step h5, g_step h6, g_step h7, z, Nat.mul_zero, Nat.add_zero]
  · rw [show (64 : Nat) = 8 + (8 + (8 + (8 + (8 + (8 + (8 + (8 + 0))))))) from rfl, cnt_step h0, cnt_step h1, cnt_step h2, cnt_step h3, cnt_step h4, cnt_step h5, cnt_step h6, cnt_step h7, z2]
    rfl
/-- The last steps of the count. -/
theorem fold {v c0 c1 c2 c3 c4 c5 c6 c7 : Nat} (a0 : c0 ≤ 8) (a1 : c1 ≤ 8) (a2 : c2 ≤ 8) (a3 : c3 ≤ 8) (a4 : c4 ≤ 8) (a5 : c5 ≤ 8) (a6 : c6 ≤ 8) (a7 : c7 ≤ 8)
    (hv : v = c0 + 256 * (c1 + 256 * (c2 + 256 * (c3 + 256 * (c4 + 256 * (c5 + 256 * (c6 + 256 * c7))))))) :
    ∃ v4 v5 v6, v4 = v + v / 256 ∧ v5 = v4 + v4 / 65536 ∧ v6 = v5 + v5 / 4294967296 ∧ v4 < 18446744073709551616 ∧ v5 < 18446744073709551616 ∧ v6 < 18446744073709551616 ∧ v6 % 128 = c0 + (c1 + (c2 + (c3 + (c4 + (c5 + (c6 + c7)))))) := by
  generalize h1 : c1 + 256 * (c2 + 256 * (c3 + 256 * (c4 + 256 * (c5 + 256 * (c6 + 256 * c7))))) = t1 at hv
  generalize h2 : c2 + 256 * (c3 + 256 * (c4 + 256 * (c5 + 256 * (c6 + 256 * c7)))) = t2 at h1
  generalize h3 : c3 + 256 * (c4 + 256 * (c5 + 256 * (c6 + 256 * c7))) = t3 at h2
  generalize h4 : c4 + 256 * (c5 + 256 * (c6 + 256 * c7)) = t4 at h3
  generalize h5 : c5 + 256 * (c6 + 256 * c7) = t5 at h4
  generalize h6 : c6 + 256 * c7 = t6 at h5
  have b6 : t6 ≤ 2056 := by omega
  have b5 : t5 ≤ 526344 := by omega
  have b4 : t4 ≤ 134744072 := by omega
  have b3 : t3 ≤ 34494482440 := by omega
  have b2 : t2 ≤ 8830587504648 := by omega
  have b1 : t1 ≤ 2260630401189896 := by omega
  have e1 : v / 256 = t1 := by omega
  have e2 : (v + t1) / 65536 = t2 + t3 := by omega
  have e3 : (v + t1 + (t2 + t3)) / 4294967296 = (t4 + t5) + (t6 + c7) := by omega
  refine ⟨v + t1, v + t1 + (t2 + t3), v + t1 + (t2 + t3) + ((t4 + t5) + (t6 + c7)), by rw [e1], by rw [e2], by rw [e3], by omega, by omega, by omega, ?_⟩
  omega

/-! ### Sets. -/
/-- The numbers from 0 to 127 that are in p, rising. -/
def els (p : Nat → Bool) : List Nat := (List.range 128).filter p
def lo (p : Nat → Bool) : Nat := wdN 64 p
def hi (p : Nat → Bool) : Nat := wdN 64 (fun j => p (64 + j))
/-- Two sets agree. -/
def Agree (p q : Nat → Bool) : Prop := ∀ j, j < 128 → p j = q j
instance (p q : Nat → Bool) : Decidable (Agree p q) := inferInstanceAs (Decidable (∀ j, j < 128 → p j = q j))
theorem lo_lt (p : Nat → Bool) : lo p < 18446744073709551616 := wdN_lt p 64
theorem hi_lt (p : Nat → Bool) : hi p < 18446744073709551616 := wdN_lt _ 64
theorem lo_congr {p q : Nat → Bool} (h : Agree p q) : lo p = lo q := wdN_congr fun j hj => h j (by omega)
theorem hi_congr {p q : Nat → Bool} (h : Agree p q) : hi p = hi q := wdN_congr fun j hj => h (64 + j) (by omega)
theorem els_congr {p q : Nat → Bool} (h : Agree p q) : els p = els q := List.filter_congr fun j hj => h j (by simpa using hj)
theorem agree_of {p q : Nat → Bool} (h1 : lo p = lo q) (h2 : hi p = hi q) : Agree p q := by
  intro j hj
  rcases Nat.lt_or_ge j 64 with h | h
  · exact wdN_inj h1 j h
  · have := wdN_inj h2 (j - 64) (by omega)
    rwa [show 64 + (j - 64) = j by omega] at this
theorem agree_iff {p q : Nat → Bool} : (lo p = lo q ∧ hi p = hi q) ↔ Agree p q := ⟨fun h => agree_of h.1 h.2, fun h => ⟨lo_congr h, hi_congr h⟩⟩
theorem els_inj {p q : Nat → Bool} (h : els p = els q) : Agree p q := by
  intro j hj
  have : j ∈ els p ↔ j ∈ els q := by rw [h]
  simp only [els, List.mem_filter, List.mem_range, hj, true_and] at this
  exact Bool.eq_iff_iff.2 this
theorem els_len (p : Nat → Bool) : (els p).length = cnt 64 (lo p) + cnt 64 (hi p) := by
  unfold els cnt lo hi
  rw [← List.countP_eq_length_filter, show (128 : Nat) = 64 + 64 from rfl, List.range_add, List.countP_append, List.countP_map]
  congr 1
  · apply List.countP_congr
    intro j hj
    rw [wdN_bit]
    have : j < 64 := by simpa using hj
    simp [this]
  · apply List.countP_congr
    intro j hj
    rw [wdN_bit]
    have : j < 64 := by simpa using hj
    simp [this]
theorem els_le (p : Nat → Bool) : (els p).length ≤ 128 := by
  have := List.length_filter_le p (List.range 128)
  simpa [els] using this
def addP (p : Nat → Bool) (i : Int) : Nat → Bool := fun j => p j || decide ((j : Int) = i)
def delP (p : Nat → Bool) (i : Int) : Nat → Bool := fun j => p j && !decide ((j : Int) = i)
def orP (p q : Nat → Bool) : Nat → Bool := fun j => p j || q j
def andP (p q : Nat → Bool) : Nat → Bool := fun j => p j && q j
def notP (p q : Nat → Bool) : Nat → Bool := fun j => p j && !q j
def noneP : Nat → Bool := fun _ => false
def ofP (l : List Int) : Nat → Bool := fun j => l.contains (j : Int)
theorem lo_none : lo noneP = 0 := wdN_zero.2 fun _ _ => rfl
theorem hi_none : hi noneP = 0 := wdN_zero.2 fun _ _ => rfl
theorem els_none : els noneP = [] := by simp [els, noneP]
def lowP (k : Nat) : Nat → Bool := fun j => decide (j = k)

/-- The least element of a set that has one. -/
theorem els_first {p : Nat → Bool} {k : Nat} (hk : k < 128) (hp : p k = true) (hmin : ∀ j, j < k → p j = false) : els p = k :: els (delP p k) := by
  have e : List.range 128 = List.range k ++ (k :: (List.range (127 - k)).map (fun j => k + 1 + j)) := by
    rw [show (128 : Nat) = k + (1 + (127 - k)) by omega, List.range_add, List.range_add]
    simp [Function.comp_def, Nat.add_assoc]
  unfold els
  rw [e, List.filter_append, List.filter_append, List.filter_cons, List.filter_cons]
  have h1 : ∀ q : Nat → Bool, (∀ j, j < k → q j = false) → (List.range k).filter q = [] := by
    intro q hq
    rw [List.filter_eq_nil_iff]
    intro j hj
    simp [hq j (by simpa using hj)]
  rw [h1 p hmin, h1 (delP p k) (fun j hj => by simp [delP, hmin j hj]), if_pos hp, if_neg (by simp [delP])]
  simp only [List.nil_append, List.cons.injEq, true_and]
  apply List.filter_congr
  intro j hj
  simp only [List.mem_map] at hj
  obtain ⟨i, _, rfl⟩ := hj
  simp [delP]
  intro _
  omega
theorem lo_or (p q : Nat → Bool) : lo p ||| lo q = lo (orP p q) := wdN_or _ _ _
theorem hi_or (p q : Nat → Bool) : hi p ||| hi q = hi (orP p q) := wdN_or _ _ _
theorem lo_and (p q : Nat → Bool) : lo p &&& lo q = lo (andP p q) := wdN_and _ _ _
theorem hi_and (p q : Nat → Bool) : hi p &&& hi q = hi (andP p q) := wdN_and _ _ _
theorem lo_not (p q : Nat → Bool) : lo p &&& (18446744073709551615 - lo q) = lo (notP p q) := by
  have := wdN_not q 64
  rw [show 18446744073709551615 - lo q = 2 ^ 64 - 1 - wdN 64 q from rfl, this]
  exact wdN_and _ _ _
theorem hi_not (p q : Nat → Bool) : hi p &&& (18446744073709551615 - hi q) = hi (notP p q) := by
  have := wdN_not (fun j => q (64 + j)) 64
  rw [show 18446744073709551615 - hi q = 2 ^ 64 - 1 - wdN 64 (fun j => q (64 + j)) from rfl, this]
  exact wdN_and _ _ _
theorem lo_one {i : Nat} (h : i < 64) : 2 ^ i = lo (lowP i) := wdN_one h
theorem hi_one {i : Nat} (h : 64 ≤ i) (h2 : i < 128) : 2 ^ (i - 64) = hi (lowP i) := by
  rw [wdN_one (n := 64) (k := i - 64) (by omega)]
  apply wdN_congr
  intro j hj
  simp only [lowP]
  rw [decide_eq_decide]
  omega
theorem add_lo {p : Nat → Bool} {i : Nat} (h : i < 64) : lo p ||| 2 ^ i = lo (addP p i) ∧ hi p = hi (addP p i) := by
  constructor
  · rw [lo_one h, lo_or]
    apply wdN_congr
    intro j hj
    simp only [orP, addP, lowP, Int.ofNat_inj]
  · apply wdN_congr
    intro j hj
    have : ¬ ((64 + j : Nat) : Int) = i := by omega
    simp [addP]
    omega
theorem add_hi {p : Nat → Bool} {i : Nat} (h : 64 ≤ i) (h2 : i < 128) : hi p ||| 2 ^ (i - 64) = hi (addP p i) ∧ lo p = lo (addP p i) := by
  constructor
  · rw [hi_one h h2, hi_or]
    apply wdN_congr
    intro j hj
    simp only [orP, addP, lowP, Int.ofNat_inj]
  · apply wdN_congr
    intro j hj
    simp [addP]
    omega
theorem del_lo {p : Nat → Bool} {i : Nat} (h : i < 64) : lo p &&& (18446744073709551615 - 2 ^ i) = lo (delP p i) ∧ hi p = hi (delP p i) := by
  constructor
  · rw [lo_one h, lo_not]
    apply wdN_congr
    intro j hj
    simp only [notP, delP, lowP, Int.ofNat_inj]
  · apply wdN_congr
    intro j hj
    simp [delP]
    omega
theorem del_hi {p : Nat → Bool} {i : Nat} (h : 64 ≤ i) (h2 : i < 128) : hi p &&& (18446744073709551615 - 2 ^ (i - 64)) = hi (delP p i) ∧ lo p = lo (delP p i) := by
  constructor
  · rw [hi_one h h2, hi_not]
    apply wdN_congr
    intro j hj
    simp only [notP, delP, lowP, Int.ofNat_inj]
  · apply wdN_congr
    intro j hj
    simp [delP]
    omega
theorem add_out {p : Nat → Bool} {i : Int} (h : ¬ (0 ≤ i ∧ i < 128)) : Agree (addP p i) p := by
  intro j hj
  simp [addP]
  omega
theorem del_out {p : Nat → Bool} {i : Int} (h : ¬ (0 ≤ i ∧ i < 128)) : Agree (delP p i) p := by
  intro j hj
  simp [delP]
  omega
open Lib (ctz lowest_bit)
theorem ctz_bits {x : Nat} (h0 : x ≠ 0) (h : x < 2 ^ 64) : ctz 64 x < 64 ∧ x.testBit (ctz 64 x) = true ∧ ∀ j, j < ctz 64 x → x.testBit j = false := by
  obtain ⟨m, hm, hk⟩ := Lib.ctzFrom_spec 64 x (by omega) h
  have e : ctz 64 x = Lib.ctzFrom 64 x := by simp [ctz, h0]
  rw [e]
  generalize Lib.ctzFrom 64 x = k at hm hk
  refine ⟨hk, ?_, fun j hj => ?_⟩
  · rw [hm, Nat.testBit_two_pow_mul]
    simp [Nat.testBit_zero]
  · rw [hm, Nat.testBit_two_pow_mul]
    simp; omega
/-- The least element; 128 if there is none. -/
def first (p : Nat → Bool) : Nat := if lo p = 0 then (if hi p = 0 then 128 else 64 + ctz 64 (hi p)) else ctz 64 (lo p)
theorem none_iff {p : Nat → Bool} : (lo p = 0 ∧ hi p = 0) ↔ els p = [] := by
  have ha := agree_iff (p := p) (q := noneP)
  rw [lo_none, hi_none] at ha
  rw [ha]
  constructor
  · intro h; rw [els_congr h, els_none]
  · intro h; exact els_inj (by rw [h, els_none])
theorem first_spec {p : Nat → Bool} (h : els p ≠ []) : first p < 128 ∧ els p = first p :: els (delP p (first p)) := by
  have hl := ctz_bits (x := lo p)
  have hh := ctz_bits (x := hi p)
  unfold first
  by_cases h0 : lo p = 0
  · have h1 : hi p ≠ 0 := fun e => h (none_iff.1 ⟨h0, e⟩)
    obtain ⟨a, b, c⟩ := hh h1 (hi_lt p)
    rw [if_pos h0, if_neg h1]
    refine ⟨by omega, els_first (by omega) ?_ fun j hj => ?_⟩
    · have := wdN_bit (fun j => p (64 + j)) 64 (ctz 64 (hi p))
      rw [show wdN 64 (fun j => p (64 + j)) = hi p from rfl, b] at this
      simpa [a] using this.symm
    · rcases Nat.lt_or_ge j 64 with h64 | h64
      · exact wdN_zero.1 h0 j h64
      · have := wdN_bit (fun j => p (64 + j)) 64 (j - 64)
        rw [show wdN 64 (fun j => p (64 + j)) = hi p from rfl, c (j - 64) (by omega)] at this
        have h2 : j - 64 < 64 := by omega
        simp only [h2, decide_true, Bool.true_and] at this
        rwa [show 64 + (j - 64) = j by omega, eq_comm] at this
  · obtain ⟨a, b, c⟩ := hl h0 (lo_lt p)
    rw [if_neg h0]
    refine ⟨by omega, els_first (by omega) ?_ fun j hj => ?_⟩
    · have := wdN_bit p 64 (ctz 64 (lo p))
      rw [show wdN 64 p = lo p from rfl, b] at this
      simpa [a] using this.symm
    · have := wdN_bit p 64 j
      rw [show wdN 64 p = lo p from rfl, c j hj] at this
      have h2 : j < 64 := by omega
      simpa [h2] using this.symm
end Go.Proofs.YtkoedgmfjpcocaaDoor.Words
