/- Signs and brackets, many: what is read, and which one is too many. No program. -/
import Derived.Test.YtdibkgjldmepcaaDoorPp
namespace Go.Proofs.YtdibkgjldmepcaaDoor.Xp
open Go.RowKit Mem Lex Gen
set_option linter.unusedVariables false

def deepT : List Bool → Bytes
  | [] => [120]
  | true :: l => 45 :: deepT l
  | false :: l => [40] ++ deepT l ++ [41]
def deepW : List Bool → List Wd
  | [] => [(1, [120], 0)]
  | true :: l => (3, [45], 0) :: deepW l
  | false :: l => [(3, [40], 0)] ++ deepW l ++ [(3, [41], 0)]
def headT (l : List Bool) : Bytes := l.map fun b => if b then 45 else 40
def tailT (l : List Bool) : Bytes := List.replicate (l.count false) 41
theorem deep_head : ∀ l : List Bool, headT l ++ [120] ++ tailT l = deepT l
  | [] => rfl
  | true :: l => by
    rw [deepT, ← deep_head l]
    simp [headT, tailT]
  | false :: l => by
    rw [deepT, ← deep_head l]
    have : tailT (false :: l) = tailT l ++ [41] := by
      unfold tailT
      rw [List.count_cons_self, List.replicate_succ']
    rw [this]
    simp [headT]
theorem deep_len : ∀ l : List Bool, (deepT l).length ≤ 2 * l.length + 1
  | [] => by simp [deepT]
  | true :: l => by have := deep_len l; simp only [deepT, List.length_cons]; omega
  | false :: l => by have := deep_len l; simp only [deepT, List.length_append, List.length_cons, List.length_nil]; omega
theorem deep_beg : ∀ l : List Bool, Beg (deepT l)
  | [] => ⟨120, [], rfl, by decide, by decide⟩
  | true :: l => ⟨45, deepT l, rfl, by decide, by decide⟩
  | false :: l => ⟨40, deepT l ++ [41], by simp [deepT], by decide, by decide⟩
theorem ident_x : Ident [120] := by unfold Ident; decide
theorem ok_x : Ok (.node 2 0 [120] [] 0) := .var [120] 0 ident_x
/-- The tokens, and where the first ones stand. -/
theorem deep_lex (tot : Nat) : ∀ (l : List Bool) (rest : Bytes) (ts : List Tok), End rest → (deepT l ++ rest).length ≤ tot → LT tot rest ts →
    ∃ tx : List Tok, tx.map wd = deepW l ∧ LT tot (deepT l ++ rest) (tx ++ ts) ∧ ∀ i, i < l.length → ∃ t, tx[i]? = some t ∧ t.at_ = tot - (deepT l ++ rest).length + i
  | [], rest, ts, hr, _, h => by
    obtain ⟨tx, h1, h2⟩ := ok_x.lex tot rest ts hr h
    exact ⟨tx, h1, h2, fun i hi => absurd hi (by simp)⟩
  | true :: l, rest, ts, hr, hl, h => by
    simp only [deepT, List.cons_append, List.length_cons] at hl
    obtain ⟨tx, h1, h2, h3⟩ := deep_lex tot l rest ts hr (by omega) h
    have ht : tokN ([45] ++ (deepT l ++ rest)) = .ok ⟨3, 1, 0⟩ := tok_sign (by decide) (by decide) (by decide) (two_beg (.inl rfl) (deep_beg l).app)
    have h4 := LT.tok (w := [45]) (b := 45) ⟨[], rfl⟩ (by decide) ht rfl h2
    refine ⟨_ :: tx, ?_, by simpa [deepT] using h4, fun i hi => ?_⟩
    · rw [List.map_cons, h1, deepW]; rfl
    · cases i with
      | zero => exact ⟨_, rfl, by simp [deepT]⟩
      | succ i =>
        obtain ⟨t, h5, h6⟩ := h3 i (by simpa using hi)
        refine ⟨t, by simpa using h5, ?_⟩
        rw [h6]; simp only [deepT, List.cons_append, List.length_cons]; omega
  | false :: l, rest, ts, hr, hl, h => by
    have e0 : deepT (false :: l) ++ rest = [40] ++ (deepT l ++ ([41] ++ rest)) := by simp [deepT]
    rw [e0] at hl ⊢
    have hl' : (deepT l ++ ([41] ++ rest)).length + 1 ≤ tot := by rw [List.length_append] at hl; simpa [Nat.add_comm] using hl
    have hc : tokN ([41] ++ rest) = .ok ⟨3, 1, 0⟩ := tok_sign (by decide) (by decide) (by decide) (two_paren (.inr (.inl rfl)))
    have h41 := LT.tok (w := [41]) (b := 41) ⟨[], rfl⟩ (by decide) hc rfl h
    obtain ⟨tx, h1, h2, h3⟩ := deep_lex tot l ([41] ++ rest) _ (End.paren rest) (by omega) h41
    have ho : tokN ([40] ++ (deepT l ++ ([41] ++ rest))) = .ok ⟨3, 1, 0⟩ := tok_sign (by decide) (by decide) (by decide) (two_paren (.inl rfl))
    have h4 := LT.tok (w := [40]) (b := 40) ⟨[], rfl⟩ (by decide) ho rfl h2
    refine ⟨_ :: (tx ++ [_]), ?_, by simpa using h4, fun i hi => ?_⟩
    · rw [List.map_cons, List.map_append, h1, deepW]; rfl
    · cases i with
      | zero => exact ⟨_, rfl, by simp⟩
      | succ i =>
        have hi' : i < l.length := by simpa using hi
        obtain ⟨t, h5, h6⟩ := h3 i hi'
        have hlt : i < tx.length := (List.getElem?_eq_some_iff.1 h5).1
        refine ⟨t, by rw [List.getElem?_cons_succ, List.getElem?_append_left hlt]; exact h5, ?_⟩
        rw [h6]; simp only [List.length_append, List.length_cons, List.length_nil] at hl' ⊢; omega
theorem deep_pc : ∀ (l : List Bool) (o : Nat), o + l.length ≤ 12 → ∀ tx : List Tok, tx.map wd = deepW l → ∃ y, True ∧ Pc 6 tx o y
  | [], o, ho, tx, hw => by
    obtain ⟨y, _, hp⟩ := back ok_x o (by simpa [nestX] using ho) tx hw
    exact ⟨y, trivial, hp⟩
  | true :: l, o, ho, tx, hw => by
    simp only [List.length_cons] at ho
    obtain ⟨t, tw, rfl, ht, hw⟩ := map_cons' hw
    obtain ⟨e1, e2, e3⟩ := wd_eq ht
    obtain ⟨y, _, hp⟩ := deep_pc l (o + 1) (by omega) tw hw
    have hev : ∀ r, Stop 6 r → Ev .un (tw ++ r) (o + 1) (.ok (y, r)) := fun r hs => Ev.unlvl6 (hp.full r hs)
    exact ⟨.node 5 0 [] [y] t.at_, trivial, ⟨fun r hs => Ev.lvl6 (Ev.neg (by unfold isS; rw [e1, e2]; rfl) (by omega) (hev r hs)), fun h => absurd (show 6 ≤ 5 from h) (by decide)⟩⟩
  | false :: l, o, ho, tx, hw => by
    simp only [List.length_cons] at ho
    exact Pc.paren (Q := fun _ => True) (L := 6) (by decide) (by omega) hw fun tx h => deep_pc l (o + 1) (by omega) tx h
theorem Ev.err {n : Nat} {l : List Tok} {o : Nat} {e : Int × Int} (hn : n ≠ 6) (h : Ev (.lvl (n + 1)) l o (.error e)) : Ev (.lvl n) l o (.error e) := by
  obtain ⟨F0, h0⟩ := h
  refine ⟨F0 + 1, fun F hF => ?_⟩
  obtain ⟨G, rfl⟩ : ∃ G, F = G + 1 := ⟨F - 1, by omega⟩
  rw [prs, if_neg hn, h0 G (by omega)]
  rfl
theorem Ev.err1 {l : List Tok} {o : Nat} {e : Int × Int} (h : Ev .un l o (.error e)) : Ev (.lvl 1) l o (.error e) :=
  Ev.err (by decide) (Ev.err (by decide) (Ev.err (by decide) (Ev.err (by decide) (Ev.err (by decide) (Ev.lvl6 h)))))
theorem deep_err : ∀ (l : List Bool) (o : Nat), o ≤ 12 → 12 < o + l.length → ∀ (tx : List Tok) (r : List Tok) (A : Int), tx.map wd = deepW l → (∀ t, tx[12 - o]? = some t → (t.at_ : Int) = A) → Ev .un (tx ++ r) o (.error (14, A))
  | [], o, ho, hl, tx, r, A, hw, hA => absurd hl (by simp only [List.length_nil]; omega)
  | true :: l, o, ho, hl, tx, r, A, hw, hA => by
    simp only [List.length_cons] at hl
    obtain ⟨t, tw, rfl, ht, hw⟩ := map_cons' hw
    obtain ⟨e1, e2, e3⟩ := wd_eq ht
    have i1 : isS t [45] = true := by unfold isS; rw [e1, e2]; rfl
    by_cases h12 : o = 12
    · subst h12
      refine ev1 fun F => ?_
      rw [List.cons_append, prs]
      (try dsimp only)
      rw [i1, if_pos rfl, if_pos rfl, ← hA t rfl]
    · have ih := deep_err l (o + 1) (by omega) (by omega) tw r A hw fun u hu => hA u (by rw [show 12 - o = (12 - (o + 1)) + 1 by omega, List.getElem?_cons_succ]; exact hu)
      obtain ⟨F0, h0⟩ := ih
      refine ⟨F0 + 1, fun F hF => ?_⟩
      obtain ⟨G, rfl⟩ : ∃ G, F = G + 1 := ⟨F - 1, by omega⟩
      rw [List.cons_append, prs]
      (try dsimp only)
      rw [i1, if_pos rfl, if_neg h12, h0 G (by omega)]
      rfl
  | false :: l, o, ho, hl, tx, r, A, hw, hA => by
    simp only [List.length_cons] at hl
    obtain ⟨t, tw', rfl, ht, hw⟩ := map_cons' (show tx.map wd = (3, [40], 0) :: (deepW l ++ [(3, [41], 0)]) from hw)
    obtain ⟨tw, v, rfl, hw, hv⟩ := List.map_eq_append_iff.1 hw
    obtain ⟨e1, e2, e3⟩ := wd_eq ht
    have i1 : isS t [40] = true := by unfold isS; rw [e1, e2]; rfl
    have i2 : isS t [45] = false := by unfold isS; rw [e1, e2]; rfl
    have i3 : isS t [33] = false := by unfold isS; rw [e1, e2]; rfl
    refine Ev.prim i2 i3 ?_
    by_cases h12 : o = 12
    · subst h12
      refine ev1 fun F => ?_
      rw [prs]
      (try dsimp only)
      rw [i1, if_pos rfl, if_pos rfl, ← hA t rfl]
    · have ih := Ev.err1 (deep_err l (o + 1) (by omega) (by omega) tw (v ++ r) A hw fun u hu => hA u (by
        have hlt := (List.getElem?_eq_some_iff.1 hu).1
        rw [show 12 - o = (12 - (o + 1)) + 1 by omega, List.getElem?_cons_succ, List.getElem?_append_left hlt]; exact hu))
      obtain ⟨F0, h0⟩ := ih
      refine ⟨F0 + 1, fun F hF => ?_⟩
      obtain ⟨G, rfl⟩ : ∃ G, F = G + 1 := ⟨F - 1, by omega⟩
      rw [prs]
      (try dsimp only)
      rw [i1, if_pos rfl, if_neg h12, show (tw ++ v).append r = tw ++ (v ++ r) from List.append_assoc tw v r, h0 G (by omega)]
      rfl
/-- So many signs are read whole; with more, the 13th is told. -/
theorem deep_read (l : List Bool) (hl : l.length ≤ 40) : ∃ ts : List Tok, outcome (deepT l) = (ts, 0, 0) ∧
    if l.length ≤ 12 then ∃ y n, parse ts 0 = .ok (y, [endTok n]) else parse ts 0 = .error (14, 12) := by
  have hlen := deep_len l
  obtain ⟨tx, h1, h2, h3⟩ := deep_lex (deepT l).length l [] [] (.inl rfl) (by simp) (LT.nil _)
  rw [List.append_nil, List.append_nil] at h2
  refine ⟨tx ++ [endTok (deepT l).length], ?_, ?_⟩
  · unfold outcome
    rw [if_neg (by omega), show lexAll (deepT l) = .ok tx from h2]
  · split
    · rename_i h12
      obtain ⟨y, _, hp⟩ := deep_pc l 0 (by omega) tx h1
      have h4 := (hp.at_ (by decide) (by decide) (show 1 ≤ 6 by decide)).full [endTok (deepT l).length] ⟨_, [], rfl, .inr rfl⟩
      refine ⟨y, (deepT l).length, ?_⟩
      unfold parse
      rw [List.drop_zero]
      exact h4.at_ (by simp only [fine]; omega) (by simp only [need]; omega)
    · rename_i h12
      obtain ⟨t, h5, h6⟩ := h3 12 (by omega)
      have h4 := Ev.err1 (deep_err l 0 (by decide) (by omega) tx [endTok (deepT l).length] 12 h1 fun u hu => by
        rw [show 12 - 0 = 12 from rfl, h5] at hu
        cases hu
        rw [h6]; simp)
      unfold parse
      rw [List.drop_zero]
      exact h4.at_ (by simp only [fine]; omega) (by simp only [need]; omega)
end Go.Proofs.YtdibkgjldmepcaaDoor.Xp
