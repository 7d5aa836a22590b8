/- Plain mathematics of checked 64-bit arithmetic: what fits, the signs of bit operations, when a wrapped product is exact. No program here. -/
import Derived.WalkKit
namespace Go.Proofs.Ytoncnpgeekcojaa.NumM
open Go.RowKit

/-- The number n if 64 bits hold it, else 0; and the error that goes with it (2: out of range). -/
def okV (n : Int) : Int := if -9223372036854775808 ≤ n ∧ n ≤ 9223372036854775807 then n else 0
def okE (n : Int) : Int := if -9223372036854775808 ≤ n ∧ n ≤ 9223372036854775807 then 0 else 2

theorem okV_in {n : Int} (h : -9223372036854775808 ≤ n ∧ n ≤ 9223372036854775807) : okV n = n := if_pos h
theorem okE_in {n : Int} (h : -9223372036854775808 ≤ n ∧ n ≤ 9223372036854775807) : okE n = 0 := if_pos h
theorem okV_out {n : Int} (h : ¬ (-9223372036854775808 ≤ n ∧ n ≤ 9223372036854775807)) : okV n = 0 := if_neg h
theorem okE_out {n : Int} (h : ¬ (-9223372036854775808 ≤ n ∧ n ≤ 9223372036854775807)) : okE n = 2 := if_neg h

theorem wf64 {n : Int} (h : (Lit.int .i64 n).wf = true) : -9223372036854775808 ≤ n ∧ n ≤ 9223372036854775807 := by
  have := h; simp [Lit.wf, IntKind.min, IntKind.max, IntKind.bits, IntKind.signed] at this; omega

/-! ### Signs of the bit operations -/
theorem ofInt_msb {x : Int} (h : -9223372036854775808 ≤ x ∧ x ≤ 9223372036854775807) : (BitVec.ofInt 64 x).msb = decide (x < 0) := by
  rw [BitVec.msb_eq_decide, BitVec.toNat_ofInt]
  rw [decide_eq_decide]; simp; omega
theorem wrap_neg (r : BitVec 64) : (IntKind.i64.wrap (r.toNat : Int) < 0) ↔ r.msb = true := by
  rw [IntKind.wrap_i64, BitVec.msb_eq_decide, decide_eq_true_iff]
  have := r.isLt
  simp at this ⊢; omega
theorem wrap_fits (n : Int) : -9223372036854775808 ≤ IntKind.i64.wrap n ∧ IntKind.i64.wrap n ≤ 9223372036854775807 := by
  rw [IntKind.wrap_i64]; omega
theorem xor_fits (x y : Int) : -9223372036854775808 ≤ bits .xor .i64 x y ∧ bits .xor .i64 x y ≤ 9223372036854775807 := wrap_fits _
theorem and_neg {x y : Int} (hx : -9223372036854775808 ≤ x ∧ x ≤ 9223372036854775807) (hy : -9223372036854775808 ≤ y ∧ y ≤ 9223372036854775807) : bits .and .i64 x y < 0 ↔ x < 0 ∧ y < 0 := by
  unfold bits
  have h := wrap_neg (BitVec.ofInt 64 x &&& BitVec.ofInt 64 y)
  rw [BitVec.msb_and, ofInt_msb hx, ofInt_msb hy, Bool.and_eq_true, decide_eq_true_iff, decide_eq_true_iff] at h
  exact h
theorem xor_neg {x y : Int} (hx : -9223372036854775808 ≤ x ∧ x ≤ 9223372036854775807) (hy : -9223372036854775808 ≤ y ∧ y ≤ 9223372036854775807) : bits .xor .i64 x y < 0 ↔ (x < 0 ∧ 0 ≤ y ∨ 0 ≤ x ∧ y < 0) := by
  unfold bits
  have h := wrap_neg (BitVec.ofInt 64 x ^^^ BitVec.ofInt 64 y)
  rw [BitVec.msb_xor, ofInt_msb hx, ofInt_msb hy] at h
  have e : (IntKind.i64.wrap ((BitVec.ofInt 64 x ^^^ BitVec.ofInt 64 y).toNat : Int) < 0) ↔ (x < 0 ∧ 0 ≤ y ∨ 0 ≤ x ∧ y < 0) := by
    rw [h]; by_cases h1 : x < 0 <;> by_cases h2 : y < 0 <;> simp [h1, h2] <;> omega
  exact e

/-- The test of a sum for having wrapped round. -/
theorem add_test {a b : Int} (ha : -9223372036854775808 ≤ a ∧ a ≤ 9223372036854775807) (hb : -9223372036854775808 ≤ b ∧ b ≤ 9223372036854775807) :
    bits .and .i64 (bits .xor .i64 a (wrap64 (a + b))) (bits .xor .i64 b (wrap64 (a + b))) < 0 ↔ ¬ (-9223372036854775808 ≤ a + b ∧ a + b ≤ 9223372036854775807) := by
  have hs : -9223372036854775808 ≤ wrap64 (a + b) ∧ wrap64 (a + b) ≤ 9223372036854775807 := by unfold wrap64; omega
  rw [and_neg (xor_fits _ _) (xor_fits _ _), xor_neg ha hs, xor_neg hb hs]
  unfold wrap64; omega
theorem sub_test {a b : Int} (ha : -9223372036854775808 ≤ a ∧ a ≤ 9223372036854775807) (hb : -9223372036854775808 ≤ b ∧ b ≤ 9223372036854775807) :
    bits .and .i64 (bits .xor .i64 a b) (bits .xor .i64 a (wrap64 (a - b))) < 0 ↔ ¬ (-9223372036854775808 ≤ a - b ∧ a - b ≤ 9223372036854775807) := by
  have hs : -9223372036854775808 ≤ wrap64 (a - b) ∧ wrap64 (a - b) ≤ 9223372036854775807 := by unfold wrap64; omega
  rw [and_neg (xor_fits _ _) (xor_fits _ _), xor_neg ha hb, xor_neg ha hs]
  unfold wrap64; omega

/-! ### Division cut towards nought -/
theorem tdiv_abs (a b : Int) : (a.tdiv b).natAbs = a.natAbs / b.natAbs := Int.natAbs_tdiv a b
theorem tdiv_fits {a b : Int} (ha : -9223372036854775808 ≤ a ∧ a ≤ 9223372036854775807) (hb : b ≠ 0) (h : ¬ (a = -9223372036854775808 ∧ b = -1)) : -9223372036854775808 ≤ a.tdiv b ∧ a.tdiv b ≤ 9223372036854775807 := by
  have e := tdiv_abs a b
  have hb1 : 1 ≤ b.natAbs := by omega
  by_cases h1 : b = -1
  · subst h1; rw [Int.tdiv_neg, Int.tdiv_one] at *; omega
  · by_cases h2 : b = 1
    · subst h2; rw [Int.tdiv_one]; exact ha
    · have : a.natAbs / b.natAbs ≤ a.natAbs / 2 := Nat.div_le_div_left (by omega) (by omega)
      omega
theorem tmod_small (a : Int) {b : Int} (hb : b ≠ 0) : (a.tmod b).natAbs < b.natAbs := by
  rw [Int.natAbs_tmod]; exact Nat.mod_lt _ (by omega)

theorem tmod_sign (a b : Int) : (0 ≤ a → 0 ≤ a.tmod b) ∧ (a ≤ 0 → a.tmod b ≤ 0) := by
  constructor
  · intro h; exact Int.tmod_nonneg b h
  · intro h
    have e : a.tmod b = -((-a).tmod b) := by rw [Int.neg_tmod, Int.neg_neg]
    have := Int.tmod_nonneg (a := -a) b (by omega)
    omega
/-- What Div and Mod give fits together. -/
theorem div_law {a b : Int} (ha : -9223372036854775808 ≤ a ∧ a ≤ 9223372036854775807) (hb : b ≠ 0) (hb2 : -9223372036854775808 ≤ b ∧ b ≤ 9223372036854775807) :
    (-9223372036854775808 ≤ b * a.tdiv b ∧ b * a.tdiv b ≤ 9223372036854775807) ∧ b * a.tdiv b + a.tmod b = a ∧ (a.tmod b).natAbs < b.natAbs ∧ (0 ≤ a → 0 ≤ a.tmod b) ∧ (a ≤ 0 → a.tmod b ≤ 0) := by
  have e := Int.mul_tdiv_add_tmod a b
  have s := tmod_small a hb
  have g := tmod_sign a b
  have k : (b * a.tdiv b).natAbs ≤ a.natAbs := by
    rw [Int.natAbs_mul, tdiv_abs]; exact Nat.mul_div_le _ _
  generalize b * a.tdiv b = p at *
  generalize a.tmod b = r at *
  refine ⟨?_, e, s, g.1, g.2⟩
  omega

/-- A product that was cut to 64 bits and divides back to its factor is exact. -/
theorem mul_back {a b : Int} (ha : -9223372036854775808 ≤ a ∧ a ≤ 9223372036854775807) (h0 : a ≠ 0) (hd : (wrap64 (a * b)).tdiv a = b) : -9223372036854775808 ≤ a * b ∧ a * b ≤ 9223372036854775807 := by
  have e := Int.mul_tdiv_add_tmod (wrap64 (a * b)) a
  have m := tmod_small (wrap64 (a * b)) h0
  rw [hd] at e
  generalize a * b = p at *
  unfold wrap64 at *; omega
theorem mul_exact {a b : Int} (h0 : a ≠ 0) (h : -9223372036854775808 ≤ a * b ∧ a * b ≤ 9223372036854775807) : (wrap64 (a * b)).tdiv a = b := by
  rw [IntWalk.wrap64_in _ h]; exact Int.mul_tdiv_cancel_left b h0
theorem mul_min {a b : Int} (hb : -9223372036854775808 ≤ b ∧ b ≤ 9223372036854775807) (h : wrap64 (a * b) = -9223372036854775808) (h1 : a = -1) : ¬ (-9223372036854775808 ≤ a * b ∧ a * b ≤ 9223372036854775807) := by
  subst h1; unfold wrap64 at h; omega
/-- Quotient and remainder, and the errors that go with them (3: a division by 0; 2: out of range). -/
def divV (a b : Int) : Int := if b = 0 ∨ (a = -9223372036854775808 ∧ b = -1) then 0 else a.tdiv b
def divE (a b : Int) : Int := if b = 0 then 3 else if a = -9223372036854775808 ∧ b = -1 then 2 else 0
def modV (a b : Int) : Int := if b = 0 then 0 else a.tmod b
def modE (b : Int) : Int := if b = 0 then 3 else 0

/-! ### Parts -/
def partsW (n d : Int) : Int := if n < 0 ∨ d < 1 then 0 else if n % d = 0 then n / d else n / d + 1
def partsE (n d : Int) : Int := if n < 0 ∨ d < 1 then 1 else 0
def partsV (n d : Int) : Int := if n % d = 0 then n / d else n / d + 1
theorem parts_fits {n d : Int} (h0 : 0 ≤ n) (h1 : n ≤ 9223372036854775807) (hd : 1 ≤ d) (hm : n % d ≠ 0) : n / d + 1 ≤ 9223372036854775807 := by
  have e := Int.mul_ediv_add_emod n d
  have p := Int.emod_nonneg n (show d ≠ 0 by omega)
  have q := Int.ediv_nonneg h0 (show 0 ≤ d by omega)
  have k : n / d * 1 ≤ n / d * d := Int.mul_le_mul_of_nonneg_left hd q
  rw [Int.mul_comm (n / d) d] at k
  generalize d * (n / d) = t at *
  omega

theorem parts_law {n d : Int} (h0 : 0 ≤ n) (h1 : n ≤ 9223372036854775807) (hd : 1 ≤ d) :
    (partsV n d = 0 ∧ n = 0) ∨ (1 ≤ partsV n d ∧ partsV n d ≤ 9223372036854775807 ∧ 0 ≤ (partsV n d - 1) * d ∧ (partsV n d - 1) * d < n ∧ n - (partsV n d - 1) * d ≤ d) := by
  have e := Int.mul_ediv_add_emod n d
  have p := Int.emod_nonneg n (show d ≠ 0 by omega)
  have p2 := Int.emod_lt_of_pos n (show 0 < d by omega)
  have q := Int.ediv_nonneg h0 (show 0 ≤ d by omega)
  have u := Int.ediv_le_self d h0
  unfold partsV
  by_cases hm : n % d = 0
  · rw [if_pos hm]
    by_cases hq : n / d = 0
    · left; rw [hq] at e ⊢; simp at e; omega
    · right
      have t : (n / d - 1) * d = d * (n / d) - d := by rw [Int.sub_mul, Int.one_mul, Int.mul_comm]
      have k := Int.mul_nonneg (show 0 ≤ n / d - 1 by omega) (show 0 ≤ d by omega)
      rw [t] at k ⊢
      generalize d * (n / d) = x at *
      omega
  · rw [if_neg hm]
    right
    have f := parts_fits h0 h1 hd hm
    have t : (n / d + 1 - 1) * d = d * (n / d) := by rw [Int.add_sub_cancel, Int.mul_comm]
    have k := Int.mul_nonneg q (show 0 ≤ d by omega)
    rw [Int.mul_comm] at k
    rw [t]
    generalize d * (n / d) = x at *
    omega

/-! ### Sums and the greatest of a list -/
/-- The sum of a list, begun with s, looked at step by step: (sum, 0), or (0, 2) at the first step that does not fit. -/
def sumG (s : Int) : List Int → Int × Int
  | [] => (s, 0)
  | z :: r => if -9223372036854775808 ≤ s + z ∧ s + z ≤ 9223372036854775807 then sumG (s + z) r else (0, 2)
theorem drop_at (zs : List Int) {k : Nat} (h : k < zs.length) : zs.drop k = zs.getD k 0 :: zs.drop (k + 1) := by
  rw [List.drop_eq_getElem_cons h]; simp [List.getD, List.getElem?_eq_getElem h]
theorem getD_mem (zs : List Int) {k : Nat} (h : k < zs.length) : zs.getD k 0 ∈ zs := by
  have : zs.getD k 0 = zs[k] := by simp [List.getD, List.getElem?_eq_getElem h]
  rw [this]; exact List.getElem_mem h
theorem sumG_in {s : Int} {zs : List Int} {k : Nat} (h : k < zs.length) (hf : -9223372036854775808 ≤ s + zs.getD k 0 ∧ s + zs.getD k 0 ≤ 9223372036854775807) : sumG s (zs.drop k) = sumG (s + zs.getD k 0) (zs.drop (k + 1)) := by
  rw [drop_at zs h, sumG, if_pos hf]
theorem sumG_out {s : Int} {zs : List Int} {k : Nat} (h : k < zs.length) (hf : ¬ (-9223372036854775808 ≤ s + zs.getD k 0 ∧ s + zs.getD k 0 ≤ 9223372036854775807)) : sumG s (zs.drop k) = (0, 2) := by
  rw [drop_at zs h, sumG, if_neg hf]
/-- The greatest of m and the list's numbers. -/
def mostG (m : Int) : List Int → Int
  | [] => m
  | z :: r => mostG (if m < z then z else m) r
theorem mostG_at {m : Int} {zs : List Int} {k : Nat} (h : k < zs.length) : mostG m (zs.drop k) = mostG (if m < zs.getD k 0 then zs.getD k 0 else m) (zs.drop (k + 1)) := by
  rw [drop_at zs h, mostG]

theorem wrap_top : wrap64 9223372036854775808 = -9223372036854775808 := by unfold wrap64; omega
end Go.Proofs.Ytoncnpgeekcojaa.NumM
