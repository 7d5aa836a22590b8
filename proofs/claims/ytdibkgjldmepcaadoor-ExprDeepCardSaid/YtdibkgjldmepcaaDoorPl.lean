/- A parser takes tokens away. -/
import Derived.Test.YtdibkgjldmepcaaDoorPs
namespace Go.Proofs.YtdibkgjldmepcaaDoor.Xp
open Go.RowKit Mem Lex Gen
set_option linter.unusedVariables false

theorem thenP_ok {r : PRes} {f : Ex → List Tok → PRes} {x : Ex} {l : List Tok} (h : thenP r f = .ok (x, l)) : ∃ y m, r = .ok (y, m) ∧ f y m = .ok (x, l) := by
  unfold thenP at h
  cases r with
  | error e => cases h
  | ok z => exact ⟨z.1, z.2, rfl, h⟩
theorem wantS_ok {s : Bytes} {l : List Tok} {f : List Tok → PRes} {x : Ex} {m : List Tok} (h : wantS s l f = .ok (x, m)) : ∃ t r, l = t :: r ∧ isS t s = true ∧ f r = .ok (x, m) := by
  unfold wantS at h
  cases l with
  | nil => cases h
  | cons t r =>
    dsimp only at h
    split at h
    · rename_i hs; exact ⟨t, r, rfl, hs, h⟩
    · cases h
theorem insP_ok {l : List Tok} {s : Bytes} {m : List Tok} (h : insP l = .ok (s, m)) : ∃ t t1 t2, l = t :: t1 :: t2 :: m ∧ isS t [40] = true ∧ isN t1 = true ∧ isS t2 [41] = true ∧ s = t1.text := by
  unfold insP at h
  cases l with
  | nil => cases h
  | cons t r =>
    dsimp only at h
    split at h
    · rename_i h0
      cases r with
      | nil => cases h
      | cons t1 r1 =>
        try dsimp only at h
        split at h
        · rename_i h1
          cases r1 with
          | nil => cases h
          | cons t2 r2 =>
            dsimp only at h
            split at h
            · rename_i h2
              cases h
              exact ⟨t, t1, t2, rfl, h0, h1, h2, rfl⟩
            · cases h
        · cases h
    · cases h
theorem prs_len : ∀ F : Nat, (∀ n l o x l', prs F (.lvl n) l o = .ok (x, l') → l'.length < l.length) ∧ (∀ n y l o x l', prs F (.loop n y) l o = .ok (x, l') → l'.length ≤ l.length) ∧
    (∀ l o x l', prs F .un l o = .ok (x, l') → l'.length < l.length) ∧ (∀ l o x l', prs F .prim l o = .ok (x, l') → l'.length < l.length) := by
  intro F
  induction F with
  | zero => exact ⟨fun _ _ _ _ _ h => by simp [prs] at h, fun _ _ _ _ _ _ h => by simp [prs] at h, fun _ _ _ _ h => by simp [prs] at h, fun _ _ _ _ h => by simp [prs] at h⟩
  | succ F ih =>
    obtain ⟨i1, i2, i3, i4⟩ := ih
    refine ⟨fun n l o x l' h => ?_, fun n y l o x l' h => ?_, fun l o x l' h => ?_, fun l o x l' h => ?_⟩
    · rw [prs] at h
      split at h
      · exact i3 _ _ _ _ h
      · obtain ⟨y, m, h1, h2⟩ := thenP_ok h
        have := i1 _ _ _ _ _ h1
        have := i2 _ _ _ _ _ _ h2
        omega
    · cases l with
      | nil => simp [prs] at h
      | cons t r =>
        rw [prs] at h
        try dsimp only at h
        split at h
        · obtain ⟨z, m, h1, h2⟩ := thenP_ok h
          have a1 := i1 _ _ _ _ _ h1
          split at h2
          · cases h2
            simp only [List.length_cons]; omega
          · have := i2 _ _ _ _ _ _ h2
            simp only [List.length_cons]; omega
        · cases h
          exact Nat.le_refl _
    · cases l with
      | nil => simp [prs] at h
      | cons t r =>
        rw [prs] at h
        try dsimp only at h
        split at h
        · split at h
          · cases h
          · obtain ⟨z, m, h1, h2⟩ := thenP_ok h
            have a1 := i3 _ _ _ _ h1
            cases h2
            simp only [List.length_cons]; omega
        · split at h
          · split at h
            · cases h
            · obtain ⟨z, m, h1, h2⟩ := thenP_ok h
              have a1 := i3 _ _ _ _ h1
              cases h2
              simp only [List.length_cons]; omega
          · exact i4 _ _ _ _ h
    · cases l with
      | nil => simp [prs] at h
      | cons t r =>
        rw [prs] at h
        try dsimp only at h
        split at h
        · split at h
          · cases h
          · obtain ⟨z, m, h1, h2⟩ := thenP_ok h
            have a1 := i1 _ _ _ _ _ h1
            obtain ⟨t', r', rfl, _, h3⟩ := wantS_ok h2
            cases h3
            simp only [List.length_cons] at a1 ⊢; omega
        · split at h
          · cases hq : insP r with
            | error e => rw [hq] at h; cases h
            | ok z =>
              obtain ⟨s, m⟩ := z
              rw [hq] at h
              cases h
              obtain ⟨a, b, c, rfl, _⟩ := insP_ok hq
              simp only [List.length_cons]; omega
          · split at h
            · cases h; simp
            · split at h
              · cases h; simp
              · split at h
                · cases h; simp
                · cases h
end Go.Proofs.YtdibkgjldmepcaaDoor.Xp
