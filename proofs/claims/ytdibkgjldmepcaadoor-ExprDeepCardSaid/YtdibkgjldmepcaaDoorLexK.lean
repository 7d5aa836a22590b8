/- The chapter's examples (law 6's known). -/
import Derived.Test.YtdibkgjldmepcaaDoorLexN
namespace Go.Proofs.YtdibkgjldmepcaaDoor.Lex
open Go.RowKit Mem
set_option linter.unusedVariables false

theorem out1 : outcome [97, 45, 62, 49, 50, 32, 35, 32, 110, 111] = ([⟨1, 0, 1, [97], 0⟩, ⟨3, 1, 3, [45, 62], 0⟩, ⟨2, 3, 5, [49, 50], 12⟩, ⟨4, 10, 10, [], 0⟩], 0, 0) := by
  have h : lexAll [97, 45, 62, 49, 50, 32, 35, 32, 110, 111] = .ok [⟨1, 0, 1, [97], 0⟩, ⟨3, 1, 3, [45, 62], 0⟩, ⟨2, 3, 5, [49, 50], 12⟩] := by
    show lexW 10 [97, 45, 62, 49, 50, 32, 35, 32, 110, 111] = _
    rw [lexW_ok (t := ⟨1, 1, 0⟩) rfl]
    show (lexW 10 [45, 62, 49, 50, 32, 35, 32, 110, 111]).map _ = _
    rw [lexW_ok (t := ⟨3, 2, 0⟩) rfl]
    show ((lexW 10 [49, 50, 32, 35, 32, 110, 111]).map _).map _ = _
    rw [lexW_ok (t := ⟨2, 2, 12⟩) rfl]
    show (((lexW 10 []).map _).map _).map _ = _
    rw [lexW_nil]
    rfl
  unfold outcome
  rw [if_neg (by decide), h]
  rfl
theorem out2 : outcome [120, 32, 61, 32, 48, 48, 55, 59] = ([], 11, 4) := by
  have h : lexAll [120, 32, 61, 32, 48, 48, 55, 59] = .error (11, 4) := by
    show lexW 8 [120, 32, 61, 32, 48, 48, 55, 59] = _
    rw [lexW_ok (t := ⟨1, 1, 0⟩) rfl]
    show (lexW 8 [61, 32, 48, 48, 55, 59]).map _ = _
    rw [lexW_ok (t := ⟨3, 1, 0⟩) rfl]
    show ((lexW 8 [48, 48, 55, 59]).map _).map _ = _
    rw [lexW_err (e := 11) (List.cons_ne_nil _ _) rfl]
    rfl
  unfold outcome
  rw [if_neg (by decide), h]
  rfl
theorem out3 : outcome [97, 32, 38, 32, 98] = ([], 10, 2) := by
  have h : lexAll [97, 32, 38, 32, 98] = .error (10, 2) := by
    show lexW 5 [97, 32, 38, 32, 98] = _
    rw [lexW_ok (t := ⟨1, 1, 0⟩) rfl]
    show (lexW 5 [38, 32, 98]).map _ = _
    rw [lexW_err (e := 10) (List.cons_ne_nil _ _) rfl]
    rfl
  unfold outcome
  rw [if_neg (by decide), h]
  rfl

/-- There are no more tokens than bytes. -/
theorem lexW_len (tot : Nat) : ∀ (m : Nat) (l : Bytes), l.length ≤ m → ∀ ts, lexW tot l = .ok ts → ts.length ≤ l.length
  | 0, l, h, ts, he => by
    obtain rfl : l = [] := List.eq_nil_of_length_eq_zero (by omega)
    rw [lexW_nil] at he
    cases he
    simp
  | m + 1, l, h, ts, he => by
    cases hT : tokN l with
    | error e =>
      cases l with
      | nil => rw [lexW_nil] at he; cases he; simp
      | cons b r => rw [lexW_err (List.cons_ne_nil _ _) hT] at he; cases he
    | ok t =>
      have htl := tokN_len hT
      rw [lexW_ok hT] at he
      have hb := behind_le t.len l
      cases hr : lexW tot (behind t.len l) with
      | error e => rw [hr] at he; cases he
      | ok r =>
        rw [hr] at he
        cases he
        have := lexW_len tot m (behind t.len l) (by omega) r hr
        simp only [List.length_cons]
        omega
theorem outcome_len (l : Bytes) : (outcome l).1.length ≤ 1000000 := by
  unfold outcome
  by_cases h : 16384 < l.length
  · rw [if_pos h]; simp
  · rw [if_neg h]
    cases he : lexAll l with
    | error e => simp
    | ok ts =>
      have := lexW_len l.length _ _ (Nat.le_refl _) ts he
      simp at this ⊢
      omega

end Go.Proofs.YtdibkgjldmepcaaDoor.Lex
