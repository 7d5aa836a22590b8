/- Sets compared as values. -/
import Derived.Test.YtkoedgmfjpcocaaDoorSet
import Derived.ChangeKeysEq
import Derived.Laws.StructEq
namespace Go.Proofs.YtkoedgmfjpcocaaDoor.Sets
open Go.RowKit Mem Words
set_option linter.unusedVariables false
theorem field0 (x y : Value) (w : World) : (Instr.field 28 (.agg #[x, y]) 0).run Tryd.prog w = .ok (.agg #[x, y]) w := by
  have h : Tryd.prog.underlying 28 = some (.struct (Tryd.prog.fieldsOf 28)) := by kernel_rfl
  simp [Instr.field, asAgg, run_underlying h, go_sem]
theorem info_word : (Tryd.prog.info? 25).map (fun i => (i.zero, i.size, i.bytes)) = some (some (.int .u64 0), 1, 8) := by kernel_rfl
theorem info_words : (Tryd.prog.info? 26).map (fun i => i.size) = some 2 := by kernel_rfl
theorem eqArr (d : Nat) (a b c e : Int) (w : World) : Sem.run Tryd.prog (Op.equalIn (d + 2) 26 (.agg #[.int .u64 a, .int .u64 b]) (.agg #[.int .u64 c, .int .u64 e])) w = .ok ((a == c) && (b == e)) w := by
  obtain ⟨i0, hi, hz0, hz1, hz2⟩ := info_parts info_word
  have h1 : Tryd.prog.cellsOf 25 = 1 := by kernel_rfl
  have h := run_equalIn_array (P := Tryd.prog) (w := w) (d + 1) (i := i0) #[.int .u64 a, .int .u64 b] #[.int .u64 c, .int .u64 e] Tryd.underlying26 hi
  rw [h, h1]
  simp [List.range_succ, Op.eqItems, go_sem, Tryd.underlying25, part]
  by_cases h1 : a = c <;> by_cases h2 : b = e <;> simp [h1, h2]
theorem eqSt (d : Nat) (a b c e : Int) (w : World) : Sem.run Tryd.prog (Op.equalIn (d + 3) 28 (.agg #[.int .u64 a, .int .u64 b]) (.agg #[.int .u64 c, .int .u64 e])) w = .ok ((a == c) && (b == e)) w := by
  have h1 : Tryd.prog.stoodInHeld 28 = false := by kernel_rfl
  have h2 : Tryd.prog.underlying 28 = some (.struct (Tryd.prog.fieldsOf 28)) := by kernel_rfl
  have hi : ∃ i, Tryd.prog.info? 26 = some i ∧ i.size = 2 := by
    have h := info_words
    cases hh : Tryd.prog.info? 26 with
    | none => rw [hh] at h; cases h
    | some i => rw [hh] at h; exact ⟨i, rfl, by simpa using h⟩
  obtain ⟨i, hi, hz⟩ := hi
  have h := run_equalIn_struct (P := Tryd.prog) w (d + 2) 28 #[.int .u64 a, .int .u64 b] #[.int .u64 c, .int .u64 e] h2 h1
  have hq := eqArr d a b c e w
  rw [h]
  simp [Op.eqFields, go_sem, hq]
  by_cases h1 : a = c <;> by_cases h2 : b = e <;> simp [h1, h2]
theorem words_eq (p q : Nat → Bool) : (((lo p : Nat) : Int) == ((lo q : Nat) : Int) && ((hi p : Nat) : Int) == ((hi q : Nat) : Int)) = decide (Agree p q) := by
  rw [Bool.eq_iff_iff, decide_eq_true_eq, Bool.and_eq_true, beq_iff_eq, beq_iff_eq, Int.ofNat_inj, Int.ofNat_inj]
  exact agree_iff
/-- Two sets, two arrays of sets, compared. -/
theorem eqSets (p q : Nat → Bool) (w : World) : Sem.run Tryd.prog (Op.equalIn 10000 28 (.agg #[.int .u64 (lo p : Nat), .int .u64 (hi p : Nat)]) (.agg #[.int .u64 (lo q : Nat), .int .u64 (hi q : Nat)])) w = .ok (decide (Agree p q)) w := by
  rw [← words_eq]; exact eqSt 9997 _ _ _ _ w
theorem eqWords (p q : Nat → Bool) (w : World) : Sem.run Tryd.prog (Op.equalIn 10000 26 (.agg #[.int .u64 (lo p : Nat), .int .u64 (hi p : Nat)]) (.agg #[.int .u64 (lo q : Nat), .int .u64 (hi q : Nat)])) w = .ok (decide (Agree p q)) w := by
  rw [← words_eq]; exact eqArr 9998 _ _ _ _ w
theorem none_words (p : Nat → Bool) (w : World) : Sem.run Tryd.prog (Op.equalIn 10000 26 (.agg #[.int .u64 (lo p : Nat), .int .u64 (hi p : Nat)]) (.agg #[.int .u64 0, .int .u64 0])) w = .ok (decide (els p = [])) w := by
  have h := eqWords p noneP w
  rw [lo_none, hi_none] at h
  rw [show (0 : Int) = ((0 : Nat) : Int) from rfl, h]
  congr 1
  rw [decide_eq_decide]
  exact ⟨fun h => by rw [els_congr h, els_none], fun h => els_inj (by rw [h, els_none])⟩
end Go.Proofs.YtkoedgmfjpcocaaDoor.Sets
