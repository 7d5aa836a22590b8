/- A name is one token, and what is one token is a name or a word of the language; tokens lie in order (law 6's own). -/
import Derived.Test.YthcifjehglgicaaDoorLexG2
namespace Go.Proofs.YthcifjehglgicaaDoor.Lex
open Go.RowKit Mem
set_option linter.unusedVariables false

theorem tokN_name {b : UInt8} {r : Bytes} {t : T} (h : tokN (b :: r) = .ok t) (hk : t.kind = 1) : dig b = false ∧ letr b = true ∧ span word (b :: r) ≤ 24 ∧ t.len = span word (b :: r) := by
  unfold tokN at h
  simp only at h
  by_cases h1 : dig b = true
  · rw [if_pos h1] at h
    split at h
    · cases h
    · split at h
      · cases h; exact absurd (show _ = (1 : Int) from hk) (by simp)
      · cases h
  · rw [if_neg h1] at h
    by_cases h2 : letr b = true
    · rw [if_pos h2] at h
      by_cases h3 : 24 < span word (b :: r)
      · rw [if_pos h3] at h; cases h
      · rw [if_neg h3] at h; cases h
        exact ⟨by simpa using h1, h2, by omega, rfl⟩
    · rw [if_neg h2] at h
      split at h
      · cases h
      · cases h; exact absurd (show _ = (1 : Int) from hk) (by simp)
theorem letr_not {b : UInt8} (h : letr b = true) : dig b = false ∧ sp b = false ∧ b.toNat ≠ 35 := by
  unfold letr at h
  unfold dig sp
  simp at h ⊢
  omega
theorem word_not {b : UInt8} (h : word b = true) : sp b = false ∧ b.toNat ≠ 35 := by
  unfold word letr dig at h
  unfold sp
  simp at h ⊢
  omega
theorem name_one {l : Bytes} (h : nameB l = true) : outcome l = ([⟨1, 0, l.length, l, 0⟩, endTok l.length], 0, 0) ∧ reserved l = false := by
  cases l with
  | nil => simp [nameB] at h
  | cons b r =>
    simp only [nameB, Bool.and_eq_true, decide_eq_true_eq, Bool.not_eq_true', beq_iff_eq] at h
    obtain ⟨⟨⟨h1, h2⟩, h3⟩, h4⟩ := h
    have hw : word b = true := by
      cases hw : word b with
      | true => rfl
      | false => rw [span, if_neg (by rw [hw]; decide)] at h4; simp at h4
    have hl : letr b = true := by unfold word at hw; rw [h3, Bool.or_false] at hw; exact hw
    obtain ⟨_, hs, h35⟩ := letr_not hl
    have htok : tokN (b :: r) = .ok ⟨1, (b :: r).length, 0⟩ := by
      unfold tokN
      simp only
      rw [if_neg (by rw [h3]; decide), if_pos hl, h4, if_neg (by omega)]
    refine ⟨?_, h2⟩
    unfold outcome
    rw [if_neg (by omega)]
    unfold lexAll
    rw [show skipN false (b :: r) = 0 by rw [skip_f, hs, if_neg (by decide), if_neg h35], List.drop_zero, lexW_ok htok, Nat.sub_self]
    simp only
    rw [show behind (b :: r).length (b :: r) = [] by unfold behind; rw [List.drop_length]; rfl, lexW_nil, List.take_length]
    simp [Except.map]
theorem one_name {l : Bytes} {t0 t1 : Tok} {c2 : Int} (h : outcome l = ([t0, t1], 0, c2)) (hk : t0.kind = 1) (ht : t0.text = l) : nameB l = true ∨ reserved l = true := by
  unfold outcome at h
  by_cases hb : 16384 < l.length
  · rw [if_pos hb] at h; simp at h
  · rw [if_neg hb] at h
    cases he : lexAll l with
    | error x => rw [he] at h; simp at h
    | ok ts =>
      rw [he] at h
      simp only [Prod.mk.injEq] at h
      have hts : ts = [t0] := by
        have h1 := h.1
        have h2 : (ts ++ [endTok l.length]).length = 2 := by rw [h1]; rfl
        match ts, h1, h2 with
        | [x], h1, _ => simp at h1; rw [h1.1]
        | [], _, h2 => simp at h2
        | _ :: _ :: _, _, h2 => simp at h2
      subst hts
      unfold lexAll at he
      generalize hq : l.drop (skipN false l) = q at he
      have hql : q.length = l.length - skipN false l := by rw [← hq, List.length_drop]
      cases hT : tokN q with
      | error e =>
        cases q with
        | nil => rw [lexW_nil] at he; cases he
        | cons b r => rw [lexW_err (List.cons_ne_nil _ _) hT] at he; cases he
      | ok t =>
        have htl := tokN_len hT
        rw [lexW_ok hT] at he
        cases hr : lexW l.length (behind t.len q) with
        | error e => rw [hr] at he; cases he
        | ok rs =>
          rw [hr] at he
          simp only [Except.map, Except.ok.injEq, List.cons.injEq] at he
          have h1 := he.1
          have h2 : t0.text = q.take t.len := by rw [← h1]
          have h3 : t0.kind = t.kind := by rw [← h1]
          rw [ht] at h2
          have h4 := congrArg List.length h2
          rw [List.length_take] at h4
          have h5 : skipN false l = 0 := by omega
          rw [h5, List.drop_zero] at hq
          subst hq
          have h6 : t.len = l.length := by omega
          cases l with
          | nil => simp [tokN] at hT
          | cons b r =>
            obtain ⟨g1, g2, g3, g4⟩ := tokN_name hT (by rw [← h3]; exact hk)
            rw [h6] at g4
            cases hres : reserved (b :: r) with
            | true => exact .inr rfl
            | false =>
              left
              simp only [nameB, hres, g1, Bool.not_false, Bool.and_true, Bool.and_eq_true, decide_eq_true_eq, beq_iff_eq]
              exact ⟨by omega, g4.symm⟩
end Go.Proofs.YthcifjehglgicaaDoor.Lex
