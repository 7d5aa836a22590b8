/- Tokens lie one behind the other, each as it stands in the text; what is between is blank. -/
import Derived.Test.YthcifjehglgicaaDoorLexO
namespace Go.Proofs.YthcifjehglgicaaDoor.Lex
open Go.RowKit Mem
set_option linter.unusedVariables false

theorem skip_take : ∀ (l : Bytes) (c : Bool), skipN c (l.take (skipN c l)) = skipN c l
  | [], c => by rw [skip_nil]; rfl
  | b :: r, false => by
    rw [skip_f]
    by_cases h1 : sp b = true
    · rw [if_pos h1, List.take_succ_cons, skip_f, if_pos h1, skip_take r false]
    · rw [if_neg h1]
      by_cases h2 : b.toNat = 35
      · rw [if_pos h2, List.take_succ_cons, skip_f, if_neg h1, if_pos h2, skip_take r true]
      · rw [if_neg h2]; rfl
  | b :: r, true => by
    rw [skip_t]
    by_cases h1 : isNl b = true
    · rw [if_pos h1, List.take_succ_cons, skip_t, if_pos h1, skip_take r false]
    · rw [if_neg h1, List.take_succ_cons, skip_t, if_neg h1, skip_take r true]
/-- The text from p to j is blank: it has no token but its end. -/
def blank (l : Bytes) (p j : Nat) : Prop := ∃ m, outcome ((l.drop p).take (j - p)) = ([endTok m], 0, 0)
theorem blank_skip (l : Bytes) (p : Nat) (hl : l.length ≤ 16384) : blank l p (p + skipN false (l.drop p)) := by
  unfold blank
  rw [Nat.add_sub_cancel_left]
  have h1 := skip_take (l.drop p) false
  have hle := skipN_le false (l.drop p)
  generalize hq : (l.drop p).take (skipN false (l.drop p)) = q at h1
  have hql : q.length = skipN false (l.drop p) := by rw [← hq, List.length_take]; omega
  refine ⟨q.length, ?_⟩
  unfold outcome
  rw [List.length_drop] at hle
  rw [if_neg (by omega)]
  unfold lexAll
  rw [h1, ← hql, List.drop_length, lexW_nil]
  rfl
/-- One token behind p. -/
def F (l : Bytes) (p : Nat) (t : Tok) : Prop := p ≤ t.at_ ∧ t.at_ ≤ t.en ∧ t.en ≤ l.length ∧ t.text = (l.drop t.at_).take (t.en - t.at_) ∧ blank l p t.at_
/-- Tokens behind p, up to the text's end. -/
def Full (l : Bytes) : Nat → List Tok → Prop
  | _, [] => False
  | p, t :: ts => F l p t ∧ ((ts = [] ∧ t.kind = 4 ∧ t.en = l.length) ∨ (ts ≠ [] ∧ t.kind ≠ 4 ∧ Full l t.en ts))
theorem tokN_kind {l : Bytes} {t : T} (h : tokN l = .ok t) : t.kind ≠ 4 := by
  cases l with
  | nil => simp [tokN] at h
  | cons b r =>
    unfold tokN at h
    simp only at h
    split at h
    · split at h
      · cases h
      · split at h
        · cases h; simp
        · cases h
    · split at h
      · split at h
        · cases h
        · cases h; simp
      · split at h
        · cases h
        · cases h; simp
theorem full_of (l : Bytes) (hl : l.length ≤ 16384) : ∀ (m p j : Nat) (ts : List Tok), l.length - p ≤ m → j = p + skipN false (l.drop p) → p ≤ l.length → lexW l.length (l.drop j) = .ok ts → Full l p (ts ++ [endTok l.length])
  | m, p, j, ts, hm, hj, hp, he => by
    have hsk := skipN_le false (l.drop p)
    rw [List.length_drop] at hsk
    have hbl := blank_skip l p hl
    rw [← hj] at hbl
    by_cases hlt : j < l.length
    · have hdl : (l.drop j).length = l.length - j := List.length_drop
      cases hT : tokN (l.drop j) with
      | error e =>
        rw [lexW_err (by intro h0; rw [h0] at hdl; simp at hdl; omega) hT] at he
        cases he
      | ok t =>
        have htl := tokN_len hT
        rw [lexW_ok hT, hdl, show l.length - (l.length - j) = j by omega] at he
        cases hr : lexW l.length (behind t.len (l.drop j)) with
        | error e => rw [hr] at he; cases he
        | ok rs =>
          rw [hr] at he
          cases he
          have hb : behind t.len (l.drop j) = l.drop (j + t.len + skipN false (l.drop (j + t.len))) := by
            unfold behind
            simp only [List.drop_drop, Nat.add_assoc]
          rw [hb] at hr
          have ih := full_of l hl (m - 1) (j + t.len) _ rs (by omega) rfl (by omega) hr
          rw [List.cons_append]
          refine ⟨⟨show p ≤ j by omega, show j ≤ j + t.len by omega, show j + t.len ≤ l.length by omega, ?_, hbl⟩, .inr ⟨by simp, tokN_kind hT, ih⟩⟩
          rw [Nat.add_sub_cancel_left]
    · rw [List.drop_of_length_le (by omega), lexW_nil] at he
      cases he
      obtain rfl : j = l.length := by omega
      exact ⟨⟨show p ≤ l.length from hp, Nat.le_refl _, Nat.le_refl _, by simp [endTok], hbl⟩, .inl ⟨rfl, rfl, rfl⟩⟩
termination_by m => m
decreasing_by omega
/-- What All answers lies so; or the fault lies within the text. -/
theorem lies (l : Bytes) (hl : l.length ≤ 16384) : (∃ ts, outcome l = (ts, 0, 0) ∧ Full l 0 ts) ∨ (∃ e a : Int, outcome l = ([], e, a) ∧ e ≠ 0 ∧ 0 ≤ a ∧ a < l.length) := by
  unfold outcome
  rw [if_neg (by omega)]
  cases he : lexAll l with
  | ok ts =>
    refine .inl ⟨_, rfl, ?_⟩
    unfold lexAll at he
    exact full_of l hl l.length 0 (skipN false l) ts (by omega) (by simp) (by omega) he
  | error x =>
    obtain ⟨e, a⟩ := x
    refine .inr ⟨e, a, rfl, ?_⟩
    unfold lexAll at he
    have key : ∀ (m : Nat) (q : Bytes), q.length ≤ m → q.length ≤ l.length → lexW l.length q = .error (e, a) → e ≠ 0 ∧ (a : Int) < l.length := by
      intro m
      induction m with
      | zero =>
        intro q h _ hq
        obtain rfl : q = [] := List.eq_nil_of_length_eq_zero (by omega)
        rw [lexW_nil] at hq; cases hq
      | succ m ih =>
        intro q h hql hq
        cases hT : tokN q with
        | error e' =>
          cases q with
          | nil => rw [lexW_nil] at hq; cases hq
          | cons b r =>
            have := tokN_err (List.cons_ne_nil _ _) hT
            rw [lexW_err (List.cons_ne_nil _ _) hT] at hq
            cases hq
            simp only [List.length_cons] at hql ⊢
            omega
        | ok t =>
          have htl := tokN_len hT
          have hb := behind_le t.len q
          rw [lexW_ok hT] at hq
          cases hr : lexW l.length (behind t.len q) with
          | ok rs => rw [hr] at hq; cases hq
          | error y =>
            rw [hr] at hq
            cases hq
            exact ih _ (by omega) (by omega) hr
    obtain ⟨h1, h2⟩ := key l.length (l.drop (skipN false l)) (by simp) (by simp) he
    exact ⟨h1, by omega, h2⟩
end Go.Proofs.YthcifjehglgicaaDoor.Lex
