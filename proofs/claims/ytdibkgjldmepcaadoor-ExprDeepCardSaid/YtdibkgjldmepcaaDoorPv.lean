/- What is printed is read again: the parser on the tokens of an expression's text. No program. -/
import Derived.Test.YtdibkgjldmepcaaDoorPx
import Derived.Test.YtdibkgjldmepcaaDoorPj
namespace Go.Proofs.YtdibkgjldmepcaaDoor.Xp
open Go.RowKit Mem Lex Gen
set_option linter.unusedVariables false

/-- More fuel than is enough changes nothing. -/
def fine : What → Prop
  | .lvl n => n ≤ 6
  | .loop n _ => n ≤ 5
  | _ => True
theorem prs_more : ∀ (F : Nat) (q : What) (l : List Tok) (o : Nat), fine q → need q l.length ≤ F → prs (F + 1) q l o = prs F q l o := by
  intro F
  induction F with
  | zero => intro q l o hf h; cases q <;> simp only [need, fine] at h hf <;> omega
  | succ F ih =>
    have congT : ∀ {r r' : PRes} {f f' : Ex → List Tok → PRes}, r = r' → (∀ y m, r' = .ok (y, m) → f y m = f' y m) → thenP r f = thenP r' f' := by
      intro r r' f f' h1 h2
      subst h1
      unfold thenP
      cases r with
      | error e => rfl
      | ok z => exact h2 z.1 z.2 rfl
    intro q l o hf h
    cases q with
    | lvl n =>
      simp only [fine] at hf
      (rw [prs]; conv => rhs; rw [prs])
      simp only [need] at h
      split
      · exact ih .un l o trivial (by simp only [need]; omega)
      · refine congT (ih (.lvl (n + 1)) l o (by simp only [fine]; omega) (by simp only [need]; omega)) fun y m hm => ?_
        have := (prs_len F).1 _ _ _ _ _ hm
        exact ih (.loop n y) m o (by simp only [fine]; omega) (by simp only [need]; omega)
    | loop n x =>
      cases l with
      | nil => (rw [prs]; conv => rhs; rw [prs])
      | cons t r =>
        (rw [prs]; conv => rhs; rw [prs])
        simp only [need, List.length_cons] at h
        (try dsimp only)
        split
        · refine congT (ih (.lvl (n + 1)) r o (by simp only [fine] at hf ⊢; omega) (by simp only [need]; omega)) fun y m hm => ?_
          have := (prs_len F).1 _ _ _ _ _ hm
          split
          · rfl
          · exact ih _ m o (by simp only [fine] at hf ⊢; omega) (by simp only [need]; omega)
        · rfl
    | un =>
      cases l with
      | nil => (rw [prs]; conv => rhs; rw [prs])
      | cons t r =>
        (rw [prs]; conv => rhs; rw [prs])
        simp only [need, List.length_cons] at h
        (try dsimp only)
        have hr := ih .un r (o + 1) trivial (by simp only [need]; omega)
        have hp := ih .prim (t :: r) o trivial (by simp only [need, List.length_cons]; omega)
        rw [hr, hp]
    | prim =>
      cases l with
      | nil => (rw [prs]; conv => rhs; rw [prs])
      | cons t r =>
        (rw [prs]; conv => rhs; rw [prs])
        simp only [need, List.length_cons] at h
        (try dsimp only)
        have hr := ih (.lvl 1) r (o + 1) (by simp only [fine]; omega) (by simp only [need]; omega)
        rw [hr]
/-- With fuel enough it answers so. -/
def Ev (q : What) (l : List Tok) (o : Nat) (res : PRes) : Prop := ∃ F0, ∀ F, F0 ≤ F → prs F q l o = res
theorem Ev.at_ {q : What} {l : List Tok} {o : Nat} {res : PRes} (h : Ev q l o res) (hf : fine q) {F : Nat} (hF : need q l.length ≤ F) : prs F q l o = res := by
  obtain ⟨F0, h0⟩ := h
  have key : ∀ k, prs (F + k) q l o = prs F q l o := by
    intro k
    induction k with
    | zero => rfl
    | succ k ih => rw [← Nat.add_assoc, prs_more (F + k) q l o hf (by omega)]; exact ih
  rw [← key F0]
  exact h0 _ (by omega)
theorem Ev.lvl6 {l : List Tok} {o : Nat} {res : PRes} (h : Ev .un l o res) : Ev (.lvl 6) l o res := by
  obtain ⟨F0, h0⟩ := h
  refine ⟨F0 + 1, fun F hF => ?_⟩
  obtain ⟨G, rfl⟩ : ∃ G, F = G + 1 := ⟨F - 1, by omega⟩
  rw [prs, if_pos rfl]
  exact h0 G (by omega)
theorem Ev.lvl {n : Nat} {l r : List Tok} {o : Nat} {y : Ex} {res : PRes} (hn : n ≠ 6) (h : Ev (.lvl (n + 1)) l o (.ok (y, r))) (h2 : Ev (.loop n y) r o res) : Ev (.lvl n) l o res := by
  obtain ⟨F0, h0⟩ := h
  obtain ⟨F1, h1⟩ := h2
  refine ⟨F0 + F1 + 1, fun F hF => ?_⟩
  obtain ⟨G, rfl⟩ : ∃ G, F = G + 1 := ⟨F - 1, by omega⟩
  rw [prs, if_neg hn, h0 G (by omega)]
  exact h1 G (by omega)
theorem Ev.stop {n : Nat} {y : Ex} {t : Tok} {r : List Tok} {o : Nat} (h : lev (binK t) ≠ n) : Ev (.loop n y) (t :: r) o (.ok (y, t :: r)) := by
  refine ⟨1, fun F hF => ?_⟩
  obtain ⟨G, rfl⟩ : ∃ G, F = G + 1 := ⟨F - 1, by omega⟩
  rw [prs]
  (try dsimp only)
  rw [if_neg h]
theorem Ev.go {n : Nat} {x y : Ex} {t : Tok} {l r : List Tok} {o : Nat} {res : PRes} (h : lev (binK t) = n) (h3 : n ≠ 3) (h1 : Ev (.lvl (n + 1)) l o (.ok (y, r))) (h2 : Ev (.loop n (.node (binK t) 0 [] [x, y] t.at_)) r o res) : Ev (.loop n x) (t :: l) o res := by
  obtain ⟨F0, h0⟩ := h1
  obtain ⟨F1, h1⟩ := h2
  refine ⟨F0 + F1 + 1, fun F hF => ?_⟩
  obtain ⟨G, rfl⟩ : ∃ G, F = G + 1 := ⟨F - 1, by omega⟩
  rw [prs]
  (try dsimp only)
  rw [if_pos h, h0 G (by omega)]
  show (if n = 3 then _ else _) = _
  rw [if_neg h3]
  exact h1 G (by omega)
theorem Ev.go3 {x y : Ex} {t : Tok} {l r : List Tok} {o : Nat} (h : lev (binK t) = ((3 : Nat) : Int)) (h1 : Ev (.lvl 4) l o (.ok (y, r))) : Ev (.loop 3 x) (t :: l) o (.ok (.node (binK t) 0 [] [x, y] t.at_, r)) := by
  obtain ⟨F0, h0⟩ := h1
  refine ⟨F0 + 1, fun F hF => ?_⟩
  obtain ⟨G, rfl⟩ : ∃ G, F = G + 1 := ⟨F - 1, by omega⟩
  rw [prs]
  (try dsimp only)
  rw [if_pos h, h0 G (by omega)]
  rfl
theorem Ev.prim {t : Tok} {l : List Tok} {o : Nat} {res : PRes} (h1 : isS t [45] = false) (h2 : isS t [33] = false) (h : Ev .prim (t :: l) o res) : Ev .un (t :: l) o res := by
  obtain ⟨F0, h0⟩ := h
  refine ⟨F0 + 1, fun F hF => ?_⟩
  obtain ⟨G, rfl⟩ : ∃ G, F = G + 1 := ⟨F - 1, by omega⟩
  rw [prs]
  (try dsimp only)
  rw [h1, h2]
  exact h0 G (by omega)
theorem Ev.neg {t : Tok} {l r : List Tok} {o : Nat} {y : Ex} (h1 : isS t [45] = true) (ho : o ≠ 12) (h : Ev .un l (o + 1) (.ok (y, r))) : Ev .un (t :: l) o (.ok (.node 5 0 [] [y] t.at_, r)) := by
  obtain ⟨F0, h0⟩ := h
  refine ⟨F0 + 1, fun F hF => ?_⟩
  obtain ⟨G, rfl⟩ : ∃ G, F = G + 1 := ⟨F - 1, by omega⟩
  rw [prs]
  (try dsimp only)
  rw [h1, if_pos rfl, if_neg ho, h0 G (by omega)]
  rfl
theorem Ev.not {t : Tok} {l r : List Tok} {o : Nat} {y : Ex} (h1 : isS t [45] = false) (h2 : isS t [33] = true) (ho : o ≠ 12) (h : Ev .un l (o + 1) (.ok (y, r))) : Ev .un (t :: l) o (.ok (.node 6 0 [] [y] t.at_, r)) := by
  obtain ⟨F0, h0⟩ := h
  refine ⟨F0 + 1, fun F hF => ?_⟩
  obtain ⟨G, rfl⟩ : ∃ G, F = G + 1 := ⟨F - 1, by omega⟩
  rw [prs]
  (try dsimp only)
  simp only [h1, h2, Bool.false_eq_true, if_false, if_true, if_neg ho, h0 G (by omega)]
  rfl
theorem Ev.brk {t t' : Tok} {l r : List Tok} {o : Nat} {y : Ex} (h1 : isS t [40] = true) (ho : o ≠ 12) (h2 : isS t' [41] = true) (h : Ev (.lvl 1) l (o + 1) (.ok (y, t' :: r))) : Ev .prim (t :: l) o (.ok (y, r)) := by
  obtain ⟨F0, h0⟩ := h
  refine ⟨F0 + 1, fun F hF => ?_⟩
  obtain ⟨G, rfl⟩ : ∃ G, F = G + 1 := ⟨F - 1, by omega⟩
  rw [prs]
  (try dsimp only)
  rw [h1, if_pos rfl, if_neg ho, h0 G (by omega)]
  simp only [thenP, wantS]
  rw [if_pos h2]
/-- What follows is no operator of level n or tighter. -/
def Stop (n : Nat) (r : List Tok) : Prop := ∃ t l, r = t :: l ∧ (lev (binK t) < n ∨ lev (binK t) = 7)
theorem Stop.up {n m : Nat} {r : List Tok} (h : Stop n r) (hm : n ≤ m) : Stop m r := by
  obtain ⟨t, l, h1, h2⟩ := h
  exact ⟨t, l, h1, by omega⟩
theorem Stop.here {n : Nat} {r : List Tok} {y : Ex} {o : Nat} (h : Stop n r) (hn : n ≤ 5) : Ev (.loop n y) r o (.ok (y, r)) := by
  obtain ⟨t, l, rfl, h2⟩ := h
  exact Ev.stop (by omega)
/-- A piece that stands where level L is asked. -/
structure Pc (L : Nat) (tw : List Tok) (o : Nat) (y : Ex) : Prop where
  full : ∀ r, Stop L r → Ev (.lvl L) (tw ++ r) o (.ok (y, r))
  loop_ : L ≤ 5 → L ≠ 3 → ∀ r res, Stop (L + 1) r → Ev (.loop L y) r o res → Ev (.lvl L) (tw ++ r) o res
/-- Below its own level, too. -/
theorem Pc.low {L : Nat} {tw : List Tok} {o : Nat} {y : Ex} (h : Pc L tw o y) (hL : L ≤ 6) : ∀ d n, n + d = L → 1 ≤ n → (∀ r, Stop n r → Ev (.lvl n) (tw ++ r) o (.ok (y, r))) ∧ (n < L → ∀ r res, Stop (n + 1) r → Ev (.loop n y) r o res → Ev (.lvl n) (tw ++ r) o res)
  | 0, n, hd, h1 => by
    obtain rfl : n = L := by omega
    exact ⟨h.full, fun h => absurd h (by omega)⟩
  | d + 1, n, hd, h1 => by
    obtain ⟨i1, i2⟩ := h.low hL d (n + 1) (by omega) (by omega)
    have key : ∀ r res, Stop (n + 1) r → Ev (.loop n y) r o res → Ev (.lvl n) (tw ++ r) o res := fun r res hs hl => Ev.lvl (by omega) (i1 r hs) hl
    exact ⟨fun r hs => key r _ (hs.up (by omega)) (hs.here (by omega)), fun _ => key⟩
theorem Pc.at_ {L n : Nat} {tw : List Tok} {o : Nat} {y : Ex} (h : Pc L tw o y) (hL : L ≤ 6) (hn : 1 ≤ n) (hnL : n ≤ L) : Pc n tw o y := by
  obtain ⟨a, b⟩ := h.low hL (L - n) n (by omega) hn
  refine ⟨a, fun h5 h3 => ?_⟩
  rcases Nat.lt_or_ge n L with h' | h'
  · exact b h'
  · obtain rfl : n = L := by omega
    exact h.loop_ h5 h3
/-- The tokens as words. -/
abbrev Wd := Int × Bytes × Int
def wd (t : Tok) : Wd := (t.kind, t.text, t.n)
def wrapW (l asks : Int) (ws : List Wd) : List Wd := if l < asks then [(3, [40], 0)] ++ ws ++ [(3, [41], 0)] else ws
def wordsX : Ex → List Wd
  | .node k n s [] p => if k = 1 then [(2, decT n, n)] else if k = 2 then [(1, s, 0)] else if k = 3 then [(3, [36], 0)] else [(1, [105, 110], 0), (3, [40], 0), (1, s, 0), (3, [41], 0)]
  | .node k n s [a] p => (3, opT k, 0) :: wrapW (lev a.kind) 6 (wordsX a)
  | .node k n s (a :: b :: _) p => wrapW (lev a.kind) (leftA k) (wordsX a) ++ [(3, opT k, 0)] ++ wrapW (lev b.kind) (lev k + 1) (wordsX b)
def lv6 (l : Int) : Nat := if l = 7 then 6 else l.toNat
/-- A piece in brackets where its place asks more. -/
theorem Pc.wrap {x : Ex} {asks : Nat} {o : Nat} {tw : List Tok} {ws : List Wd} (h16 : 1 ≤ asks ∧ asks ≤ 6) (hl : 1 ≤ lev x.kind ∧ lev x.kind ≤ 7) (hw : tw.map wd = wrapW (lev x.kind) asks ws)
    (ho : o + brk (lev x.kind) asks ≤ 12) (h : ∀ tx : List Tok, tx.map wd = ws → ∃ y, Sm x y ∧ Pc (lv6 (lev x.kind)) tx (o + brk (lev x.kind) asks) y) : ∃ y, Sm x y ∧ Pc asks tw o y := by
  unfold wrapW brk at *
  by_cases hb : lev x.kind < asks
  · rw [if_pos hb] at hw
    simp only [if_pos hb] at ho h
    obtain ⟨u, t', rfl, hu, ht'⟩ : ∃ u t', tw = u ++ [t'] ∧ u.map wd = [(3, [40], 0)] ++ ws ∧ wd t' = (3, [41], 0) := by
      obtain ⟨u, v, rfl, h1, h2⟩ := List.map_eq_append_iff.1 hw
      obtain ⟨t', rfl, h3⟩ : ∃ t', v = [t'] ∧ wd t' = (3, [41], 0) := by
        cases v with
        | nil => simp at h2
        | cons a v => cases v with
          | nil => simp at h2; exact ⟨a, rfl, h2⟩
          | cons b v => simp at h2
      exact ⟨u, t', rfl, h1, h3⟩
    obtain ⟨t, tx, rfl, ht, htx⟩ : ∃ t tx, u = t :: tx ∧ wd t = (3, [40], 0) ∧ tx.map wd = ws := by
      cases u with
      | nil => simp at hu
      | cons a u => simp at hu; exact ⟨a, u, rfl, hu.1, hu.2⟩
    obtain ⟨y, hy, hp⟩ := h tx htx
    have e1 : t.kind = 3 ∧ t.text = [40] := by unfold wd at ht; simp at ht; exact ⟨ht.1, ht.2.1⟩
    have e2 : t'.kind = 3 ∧ t'.text = [41] := by unfold wd at ht'; simp at ht'; exact ⟨ht'.1, ht'.2.1⟩
    have b1 : isS t [40] = true := by unfold isS; rw [e1.1, e1.2]; rfl
    have b2 : isS t' [41] = true := by unfold isS; rw [e2.1, e2.2]; rfl
    have b3 : isS t [45] = false := by unfold isS; rw [e1.1, e1.2]; rfl
    have b4 : isS t [33] = false := by unfold isS; rw [e1.1, e1.2]; rfl
    have b5 : lev (binK t') = 7 := by unfold binK; rw [if_pos e2.1, e2.2]; rfl
    refine ⟨y, hy, Pc.at_ (L := 6) ⟨fun r _ => ?_, fun h => absurd h (by omega)⟩ (Nat.le_refl _) h16.1 h16.2⟩
    have hL : lv6 (lev x.kind) ≤ 6 := by unfold lv6; split <;> omega
    have hL1 : 1 ≤ lv6 (lev x.kind) := by unfold lv6; split <;> omega
    have h1 := (hp.at_ hL (Nat.le_refl _) hL1).full (t' :: r) ⟨t', r, rfl, .inr b5⟩
    have := Ev.prim b3 b4 (Ev.brk b1 (by omega) b2 h1)
    simpa using Ev.lvl6 this
  · rw [if_neg hb] at hw
    simp only [if_neg hb, Nat.add_zero] at h
    obtain ⟨y, hy, hp⟩ := h tw hw
    refine ⟨y, hy, hp.at_ (by unfold lv6; split <;> omega) h16.1 (by unfold lv6; split <;> omega)⟩
end Go.Proofs.YtdibkgjldmepcaaDoor.Xp

namespace Go.Proofs.YtdibkgjldmepcaaDoor.Xp
open Go.RowKit Mem Lex Gen
set_option linter.unusedVariables false

theorem op_sign {k : Int} (h : 7 ≤ k ∧ k ≤ 19) : signK (opT k) = k := by
  have hk : k = 7 ∨ k = 8 ∨ k = 9 ∨ k = 10 ∨ k = 11 ∨ k = 12 ∨ k = 13 ∨ k = 14 ∨ k = 15 ∨ k = 16 ∨ k = 17 ∨ k = 18 ∨ k = 19 := by omega
  rcases hk with rfl | rfl | rfl | rfl | rfl | rfl | rfl | rfl | rfl | rfl | rfl | rfl | rfl <;> rfl
theorem wd_eq {t : Tok} {a : Int} {b : Bytes} {c : Int} (h : wd t = (a, b, c)) : t.kind = a ∧ t.text = b ∧ t.n = c := by
  unfold wd at h
  simpa using h
theorem map1 {l : List Tok} {a : Wd} (h : l.map wd = [a]) : ∃ t, l = [t] ∧ wd t = a := by
  cases l with
  | nil => simp at h
  | cons t l => cases l with
    | nil => simp at h; exact ⟨t, rfl, h⟩
    | cons u l => simp at h
theorem map_cons' {l : List Tok} {a : Wd} {r : List Wd} (h : l.map wd = a :: r) : ∃ t m, l = t :: m ∧ wd t = a ∧ m.map wd = r := by
  cases l with
  | nil => simp at h
  | cons t l => simp at h; exact ⟨t, l, rfl, h.1, h.2⟩
theorem Ev.unlvl6 {l : List Tok} {o : Nat} {res : PRes} (h : Ev (.lvl 6) l o res) : Ev .un l o res := by
  obtain ⟨F0, h0⟩ := h
  refine ⟨F0, fun F hF => ?_⟩
  have := h0 (F + 1) (by omega)
  rwa [prs, if_pos rfl] at this
/-- Words that are no signs. -/
theorem leaf_pc {t : Tok} {y : Ex} {tx : List Tok} {o : Nat} (h1 : isS t [45] = false) (h2 : isS t [33] = false) (h : ∀ r, Ev .prim (t :: tx ++ r) o (.ok (y, r))) : Pc 6 (t :: tx) o y :=
  ⟨fun r _ => Ev.lvl6 (Ev.prim h1 h2 (h r)), fun h => absurd h (by omega)⟩
theorem ev1 {q : What} {l : List Tok} {o : Nat} {res : PRes} (h : ∀ F, prs (F + 1) q l o = res) : Ev q l o res :=
  ⟨1, fun F hF => by obtain ⟨G, rfl⟩ : ∃ G, F = G + 1 := ⟨F - 1, by omega⟩; exact h G⟩
theorem ident_res {s : Bytes} (h : Ident s) : reserved s = false := by
  unfold Ident at h
  cases s with
  | nil => simp [nameB] at h
  | cons b r =>
    simp only [nameB, Bool.and_eq_true, Bool.not_eq_true'] at h
    exact h.1.1.2
theorem lv6_7 : lv6 7 = 6 := rfl
/-- Every expression's tokens are read as it. -/
theorem back {x : Ex} (hx : Ok x) : ∀ (o : Nat), o + nestX x ≤ 12 → ∀ tx : List Tok, tx.map wd = wordsX x → ∃ y, Sm x y ∧ Pc (lv6 (lev x.kind)) tx o y := by
  induction hx with
  | num n p h0 h1 =>
    intro o ho tx hw
    obtain ⟨t, rfl, ht⟩ := map1 (by simpa [wordsX] using hw)
    obtain ⟨e1, e2, e3⟩ := wd_eq ht
    refine ⟨.node 1 n [] [] t.at_, Sm.leaf _ _ _ _ _, leaf_pc (by unfold isS; rw [e1]; rfl) (by unfold isS; rw [e1]; rfl) fun r => ev1 fun F => ?_⟩
    rw [List.cons_append, prs, show isS t [40] = false by unfold isS; rw [e1]; rfl, show isW t [105, 110] = false by unfold isW; rw [e1]; rfl, show isN t = false by unfold isN; rw [e1]; rfl, show isS t [36] = false by unfold isS; rw [e1]; rfl]
    simp [e1, e3]
  | var s p h =>
    intro o ho tx hw
    obtain ⟨t, rfl, ht⟩ := map1 (by simpa [wordsX] using hw)
    obtain ⟨e1, e2, e3⟩ := wd_eq ht
    have hr := ident_res h
    have hin : (s == [105, 110]) = false := by
      cases hb : s == [105, 110] with
      | false => rfl
      | true => rw [beq_iff_eq] at hb; rw [hb] at hr; exact absurd hr (by decide)
    refine ⟨.node 2 0 s [] t.at_, Sm.leaf _ _ _ _ _, leaf_pc (by unfold isS; rw [e1]; rfl) (by unfold isS; rw [e1]; rfl) fun r => ev1 fun F => ?_⟩
    rw [List.cons_append, prs, show isS t [40] = false by unfold isS; rw [e1]; rfl, show isW t [105, 110] = false by unfold isW; rw [e1, e2, hin]; rfl, show isN t = true by unfold isN; rw [e1, e2, hr]; rfl]
    simp [e2]
  | arg p =>
    intro o ho tx hw
    obtain ⟨t, rfl, ht⟩ := map1 (by simpa [wordsX] using hw)
    obtain ⟨e1, e2, e3⟩ := wd_eq ht
    refine ⟨.node 3 0 [] [] t.at_, Sm.leaf _ _ _ _ _, leaf_pc (by unfold isS; rw [e1, e2]; rfl) (by unfold isS; rw [e1, e2]; rfl) fun r => ev1 fun F => ?_⟩
    rw [List.cons_append, prs, show isS t [40] = false by unfold isS; rw [e1, e2]; rfl, show isW t [105, 110] = false by unfold isW; rw [e1]; rfl, show isN t = false by unfold isN; rw [e1]; rfl, show isS t [36] = true by unfold isS; rw [e1, e2]; rfl]
    simp
  | inn s p h =>
    intro o ho tx hw
    obtain ⟨t, m, rfl, ht, hw⟩ := map_cons' (by simpa [wordsX] using hw)
    obtain ⟨t1, m, rfl, ht1, hw⟩ := map_cons' hw
    obtain ⟨t2, m, rfl, ht2, hw⟩ := map_cons' hw
    obtain ⟨t3, rfl, ht3⟩ := map1 hw
    obtain ⟨e1, e2, e3⟩ := wd_eq ht
    obtain ⟨f1, f2, f3⟩ := wd_eq ht1
    obtain ⟨g1, g2, g3⟩ := wd_eq ht2
    obtain ⟨k1, k2, k3⟩ := wd_eq ht3
    have hr := ident_res h
    refine ⟨.node 4 0 s [] t.at_, Sm.leaf _ _ _ _ _, leaf_pc (by unfold isS; rw [e1]; rfl) (by unfold isS; rw [e1]; rfl) fun r => ev1 fun F => ?_⟩
    simp only [List.cons_append, List.nil_append]
    rw [prs, show isS t [40] = false by unfold isS; rw [e1]; rfl, show isW t [105, 110] = true by unfold isW; rw [e1, e2]; rfl]
    have : insP (t1 :: t2 :: t3 :: r) = .ok (s, r) := by
      unfold insP
      simp only [show isS t1 [40] = true by unfold isS; rw [f1, f2]; rfl, if_true, show isN t2 = true by unfold isN; rw [g1, g2, hr]; rfl, show isS t3 [41] = true by unfold isS; rw [k1, k2]; rfl, g2]
    rw [this]
    rfl
  | un k a p hk ha ih =>
    intro o ho tx hw
    obtain ⟨t, tw, rfl, ht, hw⟩ := map_cons' (by simpa [wordsX] using hw)
    obtain ⟨e1, e2, e3⟩ := wd_eq ht
    simp only [nestX] at ho
    obtain ⟨y, hy, hp⟩ := Pc.wrap (x := a) (asks := 6) (o := o + 1) (by omega) (lev_range _) hw (by show o + 1 + brk (lev a.kind) 6 ≤ 12; omega) (fun tx h => ih _ (by show o + 1 + brk (lev a.kind) 6 + nestX a ≤ 12; omega) tx h)
    have hev : ∀ r, Stop 6 r → Ev .un (tw ++ r) (o + 1) (.ok (y, r)) := fun r hs => Ev.unlvl6 (hp.full r hs)
    have e40 : isS t [40] = false := by unfold isS; rw [e1, e2]; rcases hk with rfl | rfl <;> rfl
    rcases hk with rfl | rfl
    · refine ⟨.node 5 0 [] [y] t.at_, Sm.one hy, ⟨fun r hs => Ev.lvl6 (Ev.neg (by unfold isS; rw [e1, e2]; rfl) (by omega) (hev r hs)), fun h => absurd (show 6 ≤ 5 from h) (by decide)⟩⟩
    · refine ⟨.node 6 0 [] [y] t.at_, Sm.one hy, ⟨fun r hs => Ev.lvl6 (Ev.not (by unfold isS; rw [e1, e2]; rfl) (by unfold isS; rw [e1, e2]; rfl) (by omega) (hev r hs)), fun h => absurd (show 6 ≤ 5 from h) (by decide)⟩⟩
  | bin k a b p hk ha hb ia ib =>
    intro o ho tx hw
    simp only [wordsX] at hw
    obtain ⟨u, tb, rfl, hu, hwb⟩ := List.map_eq_append_iff.1 hw
    obtain ⟨ta, v, rfl, hwa, hv⟩ := List.map_eq_append_iff.1 hu
    obtain ⟨t, rfl, ht⟩ := map1 hv
    obtain ⟨e1, e2, e3⟩ := wd_eq ht
    have hbk : binK t = k := by unfold binK; rw [if_pos e1, e2, op_sign hk]
    have hlv := lev_bin hk
    obtain ⟨L, hL⟩ : ∃ L : Nat, lev k = L := ⟨(lev k).toNat, by omega⟩
    have hL6 : lv6 (lev k) = L := by unfold lv6; rw [if_neg (by omega), hL]; rfl
    have hlL : lev (binK t) = L := by rw [hbk, hL]
    simp only [nestX] at ho
    obtain ⟨AL, hAL, hA1, hA2⟩ : ∃ AL : Nat, leftA k = AL ∧ (L ≠ 3 → AL = L) ∧ (L = 3 → AL = 4) := by
      unfold leftA
      rw [hL]
      by_cases h3 : L = 3
      · subst h3; exact ⟨4, rfl, fun h => absurd rfl h, fun _ => rfl⟩
      · exact ⟨L, by rw [if_neg (by omega)], fun _ => rfl, fun h => absurd h h3⟩
    have hA6 : 1 ≤ AL ∧ AL ≤ 6 := by by_cases h3 : L = 3 <;> omega
    rw [hAL] at ho hwa
    have hBL : lev k + 1 = ((L + 1 : Nat) : Int) := by rw [hL]; rfl
    rw [hBL] at ho hwb
    obtain ⟨ya, hya, hpa⟩ := Pc.wrap (x := a) (asks := AL) (o := o) hA6 (lev_range _) hwa (by omega) (fun tx h => ia _ (by omega) tx h)
    obtain ⟨yb, hyb, hpb⟩ := Pc.wrap (x := b) (asks := L + 1) (o := o) (by omega) (lev_range _) hwb (by omega) (fun tx h => ib _ (by omega) tx h)
    have hnode : Sm (.node k 0 [] [a, b] p) (.node (binK t) 0 [] [ya, yb] t.at_) := by rw [hbk]; exact Sm.two hya hyb
    refine ⟨_, hnode, ?_⟩
    show Pc (lv6 (lev k)) _ _ _
    rw [hL6]
    by_cases h3 : L = 3
    · subst h3
      have hAL4 := hA2 rfl
      subst hAL4
      refine ⟨fun r hs => ?_, fun _ h => absurd rfl h⟩
      have h1 := Ev.go3 (x := ya) (l := tb ++ r) hlL (hpb.full r (hs.up (by omega)))
      have h2 := (hpa.low (by omega) 1 3 rfl (by omega)).2 (by omega) (t :: (tb ++ r)) _ ⟨t, _, rfl, .inl (by omega)⟩ h1
      simpa using h2
    · have hALL := hA1 h3
      subst hALL
      have key : ∀ r res, Stop (AL + 1) r → Ev (.loop AL (.node (binK t) 0 [] [ya, yb] t.at_)) r o res → Ev (.lvl AL) (ta ++ [t] ++ tb ++ r) o res := fun r res hs hl => by
        have h1 := Ev.go (x := ya) (l := tb ++ r) hlL h3 (hpb.full r hs) hl
        have h2 := hpa.loop_ (by omega) h3 (t :: (tb ++ r)) res ⟨t, _, rfl, .inl (by omega)⟩ h1
        simpa using h2
      exact ⟨fun r hs => key r _ (hs.up (by omega)) (hs.here (by omega)), fun _ _ => key⟩
end Go.Proofs.YtdibkgjldmepcaaDoor.Xp

namespace Go.Proofs.YtdibkgjldmepcaaDoor.Xp
open Go.RowKit Mem Lex Gen
set_option linter.unusedVariables false
set_option linter.unusedSimpArgs false

/-- The tokens of what is left, its blanks aside. -/
def LT (tot : Nat) (l : Bytes) (ts : List Tok) : Prop := lexW tot (l.drop (skipN false l)) = .ok ts
theorem LT.nil (tot : Nat) : LT tot [] [] := by unfold LT; simp [lexW_nil]
theorem LT.blank {tot : Nat} {l : Bytes} {ts : List Tok} (h : LT tot l ts) : LT tot (32 :: l) ts := by
  unfold LT at *
  rw [skip_f, if_pos (by decide), List.drop_succ_cons]
  exact h
theorem LT.tok {tot : Nat} {w rest : Bytes} {b : UInt8} {t : T} {ts : List Tok} (hw : ∃ r, w = b :: r) (hb : sp b = false ∧ b.toNat ≠ 35) (ht : tokN (w ++ rest) = .ok t) (hl : t.len = w.length) (h : LT tot rest ts) :
    LT tot (w ++ rest) (⟨t.kind, tot - (w ++ rest).length, tot - (w ++ rest).length + t.len, w, t.n⟩ :: ts) := by
  obtain ⟨r, rfl⟩ := hw
  unfold LT at *
  have h0 : skipN false ((b :: r) ++ rest) = 0 := by rw [List.cons_append, skip_f, hb.1, if_neg (by decide), if_neg hb.2]
  rw [h0, List.drop_zero, lexW_ok ht]
  have h1 : behind t.len ((b :: r) ++ rest) = rest.drop (skipN false rest) := by unfold behind; rw [hl, List.drop_left]
  rw [h1, h]
  simp only [Except.map, hl, List.take_left]
/-- What may stand behind a name or a number. -/
def End (rest : Bytes) : Prop := rest = [] ∨ (∃ r, rest = 32 :: r) ∨ ∃ r, rest = 41 :: r
theorem span_end {p : UInt8 → Bool} {w rest : Bytes} (hw : ∀ b ∈ w, p b = true) (hr : ∀ b r, rest = b :: r → p b = false) : span p (w ++ rest) = w.length := by
  induction w with
  | nil =>
    cases rest with
    | nil => rfl
    | cons b r => rw [List.nil_append, span, hr b r rfl]; rfl
  | cons b w ih =>
    rw [List.cons_append, span, hw b (List.mem_cons_self ..), if_pos rfl, ih fun c hc => hw c (List.mem_cons_of_mem _ hc)]
    rfl
theorem span_all' {p : UInt8 → Bool} : ∀ {w : Bytes}, span p w = w.length → ∀ b ∈ w, p b = true
  | [], _, b, hb => by cases hb
  | c :: w, h, b, hb => by
    rw [span] at h
    split at h
    · rename_i hc
      rcases List.mem_cons.1 hb with rfl | hb
      · exact hc
      · exact span_all' (by simpa using h) b hb
    · simp at h
theorem End.word {rest : Bytes} (h : End rest) : ∀ b r, rest = b :: r → word b = false ∧ dig b = false := by
  intro b r hb
  rcases h with rfl | ⟨s, rfl⟩ | ⟨s, rfl⟩
  · cases hb
  · cases hb; exact ⟨by decide, by decide⟩
  · cases hb; exact ⟨by decide, by decide⟩
theorem letr_plain {b : UInt8} (h : letr b = true) : dig b = false ∧ sp b = false ∧ b.toNat ≠ 35 ∧ b.toNat ≠ 62 ∧ b.toNat ≠ 61 := by
  unfold letr at h
  unfold dig sp
  simp only [Bool.or_eq_true, Bool.and_eq_true, decide_eq_true_eq, beq_iff_eq, Bool.and_eq_false_iff, decide_eq_false_iff_not, Bool.or_eq_false_iff, beq_eq_false_iff_ne] at *
  omega
theorem dig_plain {b : UInt8} (h : dig b = true) : sp b = false ∧ b.toNat ≠ 35 ∧ b.toNat ≠ 62 ∧ b.toNat ≠ 61 := by
  unfold dig at h
  unfold sp
  simp only [Bool.or_eq_true, Bool.and_eq_true, decide_eq_true_eq, beq_iff_eq, Bool.and_eq_false_iff, decide_eq_false_iff_not, Bool.or_eq_false_iff, beq_eq_false_iff_ne] at *
  omega
theorem ident_head {s : Bytes} (h : Ident s) : ∃ b r, s = b :: r ∧ letr b = true ∧ s.length ≤ 24 ∧ ∀ c ∈ s, word c = true := by
  unfold Ident at h
  cases s with
  | nil => simp [nameB] at h
  | cons b r =>
    simp only [nameB, Bool.and_eq_true, Bool.not_eq_true', decide_eq_true_eq, beq_iff_eq] at h
    obtain ⟨⟨⟨h1, h2⟩, h3⟩, h4⟩ := h
    have hall := span_all' h4
    refine ⟨b, r, rfl, ?_, h1, hall⟩
    have := hall b (List.mem_cons_self ..)
    unfold word at this
    rw [h3] at this
    simpa using this
theorem tok_name {s rest : Bytes} (h : Ident s) (hr : ∀ b r, rest = b :: r → word b = false) : tokN (s ++ rest) = .ok ⟨1, s.length, 0⟩ := by
  obtain ⟨b, r, rfl, hb, hl, hall⟩ := ident_head h
  have hs := span_end (p := word) hall hr
  rw [List.cons_append] at hs ⊢
  unfold tokN
  simp only [(letr_plain hb).1, hb, hs, if_true, Bool.false_eq_true, if_false]
  rw [if_neg (by omega)]
theorem tok_num {k : Nat} {rest : Bytes} (hk : k ≤ 9223372036854775807) (hr : ∀ b r, rest = b :: r → dig b = false) : tokN (dgs k ++ rest) = .ok ⟨2, (dgs k).length, k⟩ := by
  obtain ⟨hall, hne, hval, b, r, hd, h10, h1⟩ := dgs_all k k (Nat.le_refl _)
  have hs := span_end (p := dig) hall hr
  have htk : ((dgs k) ++ rest).take (dgs k).length = dgs k := List.take_left
  rw [hd, List.cons_append] at hs htk ⊢
  have hb : dig b = true := hall b (by rw [hd]; exact List.mem_cons_self ..)
  unfold tokN
  simp only [hb, hs, if_true, htk]
  rw [if_neg]
  · unfold valN
    rw [← hd, hval, if_pos hk]
  · intro hc
    rw [← hd] at hc
    rcases Nat.lt_or_ge k 10 with h | h
    · rw [dgs_lt h] at hc; simp at hc
    · exact h10 h hc.2
/-- A sign of one byte. -/
theorem tok_sign {b : UInt8} {rest : Bytes} (hb : sgn b = true) (hd : dig b = false) (hl : letr b = false) (h2 : ∀ c r, rest = c :: r → twoL.contains [b, c] = false) : tokN (b :: rest) = .ok ⟨3, 1, 0⟩ := by
  have hs : signLen (b :: rest) = 1 := by
    unfold signLen
    have : twoL.contains ((b :: rest).take 2) = false := by
      cases rest with
      | nil =>
        cases hc : twoL.contains ((b :: ([] : Bytes)).take 2) with
        | false => rfl
        | true =>
          simp only [twoL, List.contains_cons, List.contains_nil, Bool.or_false, Bool.or_eq_true, beq_iff_eq, List.take] at hc
          rcases hc with h | h | h | h | h | h | h <;> simp at h
      | cons c r => exact h2 c r rfl
    rw [this, if_neg (by decide)]
    simp [hb]
  unfold tokN
  simp only [hd, hl, hs, Bool.false_eq_true, if_false]
  rw [if_neg (by decide)]
/-- A sign of two bytes. -/
theorem tok_two {b c : UInt8} {rest : Bytes} (h : twoL.contains [b, c] = true) (hd : dig b = false) (hl : letr b = false) : tokN (b :: c :: rest) = .ok ⟨3, 2, 0⟩ := by
  have hs : signLen (b :: c :: rest) = 2 := by
    unfold signLen
    rw [show (b :: c :: rest).take 2 = [b, c] from rfl, h, if_pos rfl]
  unfold tokN
  simp only [hd, hl, hs, Bool.false_eq_true, if_false]
  rw [if_neg (by decide)]
/-- How an expression's text begins. -/
def Beg (l : Bytes) : Prop := ∃ c r, l = c :: r ∧ c.toNat ≠ 62 ∧ c.toNat ≠ 61
theorem Beg.app {l m : Bytes} (h : Beg l) : Beg (l ++ m) := by
  obtain ⟨c, r, rfl, h⟩ := h
  exact ⟨c, r ++ m, rfl, h⟩
theorem wrap_beg {l a : Int} {t : Bytes} (h : Beg t) : Beg (wrapT l a t) := by
  unfold wrapT
  split
  · exact ⟨40, t ++ [41], rfl, by decide, by decide⟩
  · exact h
theorem Ok.beg {x : Ex} (h : Ok x) : Beg (textX x) := by
  induction h with
  | num n p h0 h1 =>
    obtain ⟨hall, _, _, b, r, hd, _⟩ := dgs_all n.toNat n.toNat (Nat.le_refl _)
    have hb := dig_plain (hall b (by rw [hd]; exact List.mem_cons_self ..))
    refine ⟨b, r, ?_, hb.2.2⟩
    simp only [textX, wordD, if_true, decT]
    rw [if_neg (by omega), hd]
  | var s p h =>
    obtain ⟨b, r, rfl, hb, _⟩ := ident_head h
    exact ⟨b, r, rfl, (letr_plain hb).2.2.2⟩
  | arg p => exact ⟨36, [], rfl, by decide, by decide⟩
  | inn s p h => exact ⟨105, [110, 40] ++ s ++ [41], rfl, by decide, by decide⟩
  | un k a p h ha ih =>
    rcases h with rfl | rfl
    · exact ⟨45, _, rfl, by decide, by decide⟩
    · exact ⟨33, _, rfl, by decide, by decide⟩
  | bin k a b p h ha hb ia ib =>
    simp only [textX]
    exact (((((wrap_beg ia).app).app).app).app)
theorem two_beg {b : UInt8} {l : Bytes} (hb : b = 45 ∨ b = 33) (h : Beg l) : ∀ c r, l = c :: r → twoL.contains [b, c] = false := by
  intro c r hc
  obtain ⟨c', r', h1, h2, h3⟩ := h
  rw [h1] at hc
  cases hc
  cases hx : twoL.contains [b, c] with
  | false => rfl
  | true =>
    simp only [twoL, List.contains_cons, List.contains_nil, Bool.or_false, Bool.or_eq_true, beq_iff_eq, List.cons.injEq, and_true] at hx
    rcases hb with rfl | rfl
    · rcases hx with ⟨h, h'⟩ | ⟨h, h'⟩ | ⟨h, h'⟩ | ⟨h, h'⟩ | ⟨h, h'⟩ | ⟨h, h'⟩ | ⟨h, h'⟩ <;> subst h' <;> first | exact absurd rfl h2 | exact absurd rfl h3 | exact absurd h (by decide)
    · rcases hx with ⟨h, h'⟩ | ⟨h, h'⟩ | ⟨h, h'⟩ | ⟨h, h'⟩ | ⟨h, h'⟩ | ⟨h, h'⟩ | ⟨h, h'⟩ <;> subst h' <;> first | exact absurd rfl h2 | exact absurd rfl h3 | exact absurd h (by decide)
theorem two_paren {b : UInt8} (hb : b = 40 ∨ b = 41 ∨ b = 36) {l : Bytes} : ∀ c r, l = c :: r → twoL.contains [b, c] = false := by
  intro c r _
  cases hx : twoL.contains [b, c] with
  | false => rfl
  | true =>
    simp only [twoL, List.contains_cons, List.contains_nil, Bool.or_false, Bool.or_eq_true, beq_iff_eq, List.cons.injEq, and_true] at hx
    rcases hb with rfl | rfl | rfl <;> rcases hx with ⟨h, h'⟩ | ⟨h, h'⟩ | ⟨h, h'⟩ | ⟨h, h'⟩ | ⟨h, h'⟩ | ⟨h, h'⟩ | ⟨h, h'⟩ <;> exact absurd h (by decide)
/-- l lexes to these words, whatever the rest. -/
def Lx (l : Bytes) (ws : List Wd) (R : Bytes → Prop) : Prop := ∀ tot rest ts, R rest → LT tot rest ts → ∃ tx, tx.map wd = ws ∧ LT tot (l ++ rest) (tx ++ ts)
theorem Lx.app {l m : Bytes} {ws vs : List Wd} {R Q : Bytes → Prop} (h : Lx l ws R) (h2 : Lx m vs Q) (hR : ∀ rest, Q rest → R (m ++ rest)) : Lx (l ++ m) (ws ++ vs) Q := by
  intro tot rest ts hq hts
  obtain ⟨tv, h3, h4⟩ := h2 tot rest ts hq hts
  obtain ⟨tw, h5, h6⟩ := h tot (m ++ rest) (tv ++ ts) (hR rest hq) h4
  exact ⟨tw ++ tv, by rw [List.map_append, h5, h3], by simpa only [List.append_assoc] using h6⟩
theorem Lx.weak {l : Bytes} {ws : List Wd} {R Q : Bytes → Prop} (h : Lx l ws R) (hq : ∀ r, Q r → R r) : Lx l ws Q := fun tot rest ts h1 h2 => h tot rest ts (hq rest h1) h2
theorem Lx.blank {R : Bytes → Prop} : Lx [32] [] R := fun tot rest ts _ h => ⟨[], rfl, h.blank⟩
theorem Lx.one {w : Bytes} {b : UInt8} {k n : Int} {R : Bytes → Prop} (hw : ∃ r, w = b :: r) (hb : sp b = false ∧ b.toNat ≠ 35) (ht : ∀ rest, R rest → tokN (w ++ rest) = .ok ⟨k, w.length, n⟩) : Lx w [(k, w, n)] R := fun tot rest ts hr hts =>
  ⟨[_], rfl, LT.tok hw hb (ht rest hr) rfl hts⟩
theorem Lx.paren {b : UInt8} (hb : b = 40 ∨ b = 41 ∨ b = 36) {R : Bytes → Prop} : Lx [b] [(3, [b], 0)] R := by
  refine Lx.one ⟨[], rfl⟩ ?_ fun rest _ => tok_sign ?_ ?_ ?_ (two_paren hb)
  all_goals rcases hb with rfl | rfl | rfl <;> decide
def Blank (r : Bytes) : Prop := ∃ s, r = 32 :: s
theorem Lx.op {k : Int} (h : 7 ≤ k ∧ k ≤ 19) : Lx (opT k) [(3, opT k, 0)] Blank := by
  have hk : k = 7 ∨ k = 8 ∨ k = 9 ∨ k = 10 ∨ k = 11 ∨ k = 12 ∨ k = 13 ∨ k = 14 ∨ k = 15 ∨ k = 16 ∨ k = 17 ∨ k = 18 ∨ k = 19 := by omega
  have one : ∀ b : UInt8, sgn b = true → dig b = false → letr b = false → sp b = false → b.toNat ≠ 35 → Lx [b] [(3, [b], 0)] Blank := fun b h1 h2 h3 h4 h5 =>
    Lx.one ⟨[], rfl⟩ ⟨h4, h5⟩ fun rest hr => tok_sign h1 h2 h3 fun c r hc => by
      obtain ⟨s, rfl⟩ := hr
      cases hc
      cases hx : twoL.contains [b, 32] with
      | false => rfl
      | true =>
        simp only [twoL, List.contains_cons, List.contains_nil, Bool.or_false, Bool.or_eq_true, beq_iff_eq, List.cons.injEq, and_true] at hx
        rcases hx with ⟨h, h'⟩ | ⟨h, h'⟩ | ⟨h, h'⟩ | ⟨h, h'⟩ | ⟨h, h'⟩ | ⟨h, h'⟩ | ⟨h, h'⟩ <;> exact absurd h' (by decide)
  have two : ∀ b c : UInt8, twoL.contains [b, c] = true → dig b = false → letr b = false → sp b = false → b.toNat ≠ 35 → Lx [b, c] [(3, [b, c], 0)] Blank := fun b c h1 h2 h3 h4 h5 =>
    Lx.one ⟨[c], rfl⟩ ⟨h4, h5⟩ fun rest hr => tok_two h1 h2 h3
  rcases hk with rfl | rfl | rfl | rfl | rfl | rfl | rfl | rfl | rfl | rfl | rfl | rfl | rfl
  · exact one 42 (by decide) (by decide) (by decide) (by decide) (by decide)
  · exact one 47 (by decide) (by decide) (by decide) (by decide) (by decide)
  · exact one 37 (by decide) (by decide) (by decide) (by decide) (by decide)
  · exact one 43 (by decide) (by decide) (by decide) (by decide) (by decide)
  · exact one 45 (by decide) (by decide) (by decide) (by decide) (by decide)
  · exact one 60 (by decide) (by decide) (by decide) (by decide) (by decide)
  · exact two 60 61 (by decide) (by decide) (by decide) (by decide) (by decide)
  · exact one 62 (by decide) (by decide) (by decide) (by decide) (by decide)
  · exact two 62 61 (by decide) (by decide) (by decide) (by decide) (by decide)
  · exact two 61 61 (by decide) (by decide) (by decide) (by decide) (by decide)
  · exact two 33 61 (by decide) (by decide) (by decide) (by decide) (by decide)
  · exact two 38 38 (by decide) (by decide) (by decide) (by decide) (by decide)
  · exact two 124 124 (by decide) (by decide) (by decide) (by decide) (by decide)
theorem End.paren (rest : Bytes) : End (41 :: rest) := .inr (.inr ⟨rest, rfl⟩)
theorem End.blank (rest : Bytes) : End (32 :: rest) := .inr (.inl ⟨rest, rfl⟩)
theorem Lx.wrap {l a : Int} {t : Bytes} {ws : List Wd} (h : Lx t ws End) : Lx (wrapT l a t) (wrapW l a ws) End := by
  unfold wrapT wrapW
  split
  · have h1 : Lx ([40] : Bytes) [(3, [40], 0)] fun _ => True := Lx.paren (.inl rfl)
    have h2 : Lx ([41] : Bytes) [(3, [41], 0)] End := Lx.paren (.inr (.inl rfl))
    exact Lx.app (h1.app h fun _ _ => trivial) h2 fun rest _ => End.paren rest
  · exact h
/-- The tokens of an expression's text. -/
theorem Ok.lex {x : Ex} (h : Ok x) : Lx (textX x) (wordsX x) End := by
  induction h with
  | num n p h0 h1 =>
    have hd : decT n = dgs n.toNat := by unfold decT; rw [if_neg (by omega)]
    obtain ⟨hall, _, _, b, r, hd', _⟩ := dgs_all n.toNat n.toNat (Nat.le_refl _)
    have hb := dig_plain (hall b (by rw [hd']; exact List.mem_cons_self ..))
    simp only [textX, wordsX, wordD, if_true]
    have := Lx.one (R := End) (w := decT n) (b := b) (k := 2) (n := n) ⟨r, by rw [hd, hd']⟩ ⟨hb.1, hb.2.1⟩ fun rest hr => by
      rw [hd, tok_num (by omega) fun b r hb => (hr.word b r hb).2]
      congr 2
      omega
    exact this
  | var s p h =>
    obtain ⟨b, r, hs, hb, _⟩ := ident_head h
    have hp := letr_plain hb
    exact Lx.one ⟨r, hs⟩ ⟨hp.2.1, hp.2.2.1⟩ fun rest hr => tok_name h fun b r hb => (hr.word b r hb).1
  | arg p => exact Lx.paren (.inr (.inr rfl))
  | inn s p h =>
    obtain ⟨b, r, hs, hb, _⟩ := ident_head h
    have hp := letr_plain hb
    have h1 : Lx [105, 110] [(1, [105, 110], 0)] fun r => ∃ s, r = 40 :: s := Lx.one ⟨[110], rfl⟩ ⟨by decide, by decide⟩ fun rest hr => by
      obtain ⟨s, rfl⟩ := hr
      rfl
    have h2 : Lx ([40] : Bytes) [(3, [40], 0)] fun _ => True := Lx.paren (.inl rfl)
    have h3 : Lx s [(1, s, 0)] End := Lx.one ⟨r, hs⟩ ⟨hp.2.1, hp.2.2.1⟩ fun rest hr => tok_name h fun b r hb => (hr.word b r hb).1
    have h4 : Lx ([41] : Bytes) [(3, [41], 0)] End := Lx.paren (.inr (.inl rfl))
    have h5 := Lx.app (Lx.app (Lx.app h1 h2 fun rest _ => ⟨rest, rfl⟩) h3 fun _ _ => trivial) h4 fun rest _ => End.paren rest
    exact h5
  | un k a p h ha ih =>
    simp only [textX, wordsX]
    have hbeg := wrap_beg (l := lev a.kind) (a := 6) ha.beg
    have h1 : ∀ b : UInt8, b = 45 ∨ b = 33 → Lx [b] [(3, [b], 0)] Beg := fun b hb => Lx.one ⟨[], rfl⟩ (by rcases hb with rfl | rfl <;> decide) fun rest hr => tok_sign (by rcases hb with rfl | rfl <;> decide) (by rcases hb with rfl | rfl <;> decide) (by rcases hb with rfl | rfl <;> decide) (two_beg hb hr)
    have h2 : ∀ b : UInt8, b = 45 ∨ b = 33 → Lx ([b] ++ wrapT (lev a.kind) 6 (textX a)) ([(3, [b], 0)] ++ wrapW (lev a.kind) 6 (wordsX a)) End := fun b hb => Lx.app (h1 b hb) (Lx.wrap ih) fun rest _ => hbeg.app
    rcases h with rfl | rfl
    · exact h2 45 (.inl rfl)
    · exact h2 33 (.inr rfl)
  | bin k a b p h ha hb ia ib =>
    simp only [textX, wordsX]
    have h1 := Lx.wrap (l := lev a.kind) (a := leftA k) ia
    have h2 := Lx.wrap (l := lev b.kind) (a := lev k + 1) ib
    have h3 : Lx ([32] ++ opT k ++ [32]) [(3, opT k, 0)] fun _ => True := by
      have := Lx.app (Lx.app (Lx.blank (R := fun _ => True)) (Lx.op h) fun _ _ => trivial) (Lx.blank (R := fun _ => True)) fun rest _ => ⟨rest, rfl⟩
      simpa using this
    have h4 := Lx.app (Lx.app h1 h3 fun rest _ => by simp only [List.append_assoc, List.cons_append, List.nil_append]; exact End.blank _) h2 fun _ _ => trivial
    simpa only [List.append_assoc] using h4
end Go.Proofs.YtdibkgjldmepcaaDoor.Xp

namespace Go.Proofs.YtdibkgjldmepcaaDoor.Xp
open Go.RowKit Mem Lex Gen
set_option linter.unusedVariables false
set_option linter.unusedSimpArgs false

theorem endTok_kind (n : Nat) : (endTok n).kind = 4 := rfl
/-- The texts of a text's tokens are no longer than it. -/
theorem lexW_small (tot : Nat) : ∀ (m : Nat) (l : Bytes), l.length ≤ m → ∀ ts, lexW tot l = .ok ts → ∀ t ∈ ts, t.text.length ≤ l.length ∧ (t.kind = 1 ∨ t.kind = 2 ∨ t.kind = 3)
  | 0, l, h, ts, he => by
    obtain rfl : l = [] := List.eq_nil_of_length_eq_zero (by omega)
    rw [lexW_nil] at he
    cases he
    intro t ht; cases ht
  | m + 1, l, h, ts, he => by
    cases hT : tokN l with
    | error e =>
      cases l with
      | nil => rw [lexW_nil] at he; cases he; intro t ht; cases ht
      | cons b r => rw [lexW_err (List.cons_ne_nil _ _) hT] at he; cases he
    | ok t =>
      have htl := tokN_len hT
      rw [lexW_ok hT] at he
      have hb := behind_le t.len l
      cases hr : lexW tot (behind t.len l) with
      | error e => rw [hr] at he; cases he
      | ok r =>
        rw [hr] at he
        cases he
        intro u hu
        rcases List.mem_cons.1 hu with rfl | hu
        · refine ⟨by simp only [List.length_take]; omega, ?_⟩
          cases l with
          | nil => simp [tokN] at hT
          | cons b r =>
            unfold tokN at hT
            simp only at hT
            split at hT
            · split at hT
              · cases hT
              · split at hT <;> cases hT
                exact .inr (.inl rfl)
            · split at hT
              · split at hT <;> cases hT
                exact .inl rfl
              · split at hT <;> cases hT
                exact .inr (.inr rfl)
        · obtain ⟨a, b⟩ := lexW_small tot m (behind t.len l) (by omega) r hr u hu
          exact ⟨by omega, b⟩
theorem lexW_code (tot : Nat) : ∀ (m : Nat) (l : Bytes), l.length ≤ m → ∀ e a, lexW tot l = .error (e, a) → e = 10 ∨ e = 11 ∨ e = 13 ∨ e = 16
  | 0, l, h, e, a, he => by
    obtain rfl : l = [] := List.eq_nil_of_length_eq_zero (by omega)
    rw [lexW_nil] at he
    cases he
  | m + 1, l, h, e, a, he => by
    cases hT : tokN l with
    | error e2 =>
      cases l with
      | nil => rw [lexW_nil] at he; cases he
      | cons b r => rw [lexW_err (List.cons_ne_nil _ _) hT] at he; cases he; exact tokN_err (List.cons_ne_nil _ _) hT
    | ok t =>
      have htl := tokN_len hT
      rw [lexW_ok hT] at he
      have hb := behind_le t.len l
      cases hr : lexW tot (behind t.len l) with
      | error z => rw [hr] at he; cases he; exact lexW_code tot m _ (by omega) _ _ hr
      | ok r => rw [hr] at he; cases he
/-- What lex.All answers without a fault can be parsed. -/
theorem toks_of {w : World} {l : Bytes} {ts : List Tok} {v : Value} {c2 : Int} (ho : outcome l = (ts, 0, c2)) (hi : Items w 72 5 v ts.length (flatT ts)) : Toks w v ts ∧ 0 < ts.length := by
  have hlen := outcome_len l
  unfold outcome at ho hlen
  by_cases h : 16384 < l.length
  · rw [if_pos h] at ho; cases ho
  · rw [if_neg h] at ho hlen
    cases he : lexAll l with
    | error z =>
      obtain ⟨e, a⟩ := z
      rw [he] at ho
      simp only [Prod.mk.injEq] at ho
      obtain ⟨h1, h2, h3⟩ := ho
      exfalso
      unfold lexAll at he
      have := lexW_code _ _ _ (Nat.le_refl _) _ _ he
      omega
    | ok us =>
      rw [he] at ho hlen
      simp only [Prod.mk.injEq] at ho
      obtain ⟨rfl, _, _⟩ := ho
      have hs := lexW_small l.length _ _ (Nat.le_refl _) us he
      refine ⟨⟨hi, by simpa using hlen, fun t ht => ?_, ⟨endTok l.length, by simp, rfl⟩⟩, by simp⟩
      rcases List.mem_append.1 ht with ht | ht
      · have := (hs t ht).1
        rw [List.length_drop] at this
        omega
      · simp at ht
        rw [ht]
        simp [endTok]
/-- A text whose words are read as y is read whole. -/
theorem read_gen {l : Bytes} {ws : List Wd} {L : Nat} {Q : Ex → Prop} (hlen : l.length ≤ 16384) (hlx : Lx l ws End) (hL : 1 ≤ L ∧ L ≤ 6) (h : ∀ tx : List Tok, tx.map wd = ws → ∃ y, Q y ∧ Pc L tx 0 y) :
    ∃ tx y, Q y ∧ outcome l = (tx ++ [endTok l.length], 0, 0) ∧ parse (tx ++ [endTok l.length]) 0 = .ok (y, [endTok l.length]) := by
  obtain ⟨tx, h1, h2⟩ := hlx l.length [] [] (.inl rfl) (LT.nil _)
  rw [List.append_nil, List.append_nil] at h2
  obtain ⟨y, hy, hp⟩ := h tx h1
  refine ⟨tx, y, hy, ?_, ?_⟩
  · unfold outcome
    rw [if_neg (by omega), show lexAll l = .ok tx from h2]
  · have h3 := (hp.at_ hL.2 (Nat.le_refl _) hL.1).full [endTok l.length] ⟨_, [], rfl, .inr rfl⟩
    unfold parse
    rw [List.drop_zero]
    exact h3.at_ (by simp only [fine]; omega) (by simp only [need]; omega)
/-- Brackets round a piece. -/
theorem Pc.paren {L : Nat} {ws : List Wd} {tw : List Tok} {o : Nat} {Q : Ex → Prop} (hL : 1 ≤ L ∧ L ≤ 6) (ho : o < 12) (hw : tw.map wd = [(3, [40], 0)] ++ ws ++ [(3, [41], 0)])
    (h : ∀ tx : List Tok, tx.map wd = ws → ∃ y, Q y ∧ Pc L tx (o + 1) y) : ∃ y, Q y ∧ Pc 6 tw o y := by
  obtain ⟨u, t', rfl, hu, ht'⟩ : ∃ u t', tw = u ++ [t'] ∧ u.map wd = [(3, [40], 0)] ++ ws ∧ wd t' = (3, [41], 0) := by
    obtain ⟨u, v, rfl, h1, h2⟩ := List.map_eq_append_iff.1 hw
    obtain ⟨t', rfl, h3⟩ := map1 h2
    exact ⟨u, t', rfl, h1, h3⟩
  obtain ⟨t, tx, rfl, ht, htx⟩ := map_cons' hu
  obtain ⟨y, hy, hp⟩ := h tx htx
  obtain ⟨e1, e2, _⟩ := wd_eq ht
  obtain ⟨f1, f2, _⟩ := wd_eq ht'
  have b5 : lev (binK t') = 7 := by unfold binK; rw [if_pos f1, f2]; rfl
  refine ⟨y, hy, ⟨fun r _ => ?_, fun h => absurd h (by decide)⟩⟩
  have h1 := (hp.at_ hL.2 (Nat.le_refl _) hL.1).full (t' :: r) ⟨t', r, rfl, .inr b5⟩
  have := Ev.prim (by unfold isS; rw [e1, e2]; rfl) (by unfold isS; rw [e1, e2]; rfl) (Ev.brk (by unfold isS; rw [e1, e2]; rfl) (by omega) (by unfold isS; rw [f1, f2]; rfl) h1)
  simpa using Ev.lvl6 this
theorem Lx.parens {l : Bytes} {ws : List Wd} (h : Lx l ws End) : Lx ([40] ++ l ++ [41]) ([(3, [40], 0)] ++ ws ++ [(3, [41], 0)]) End :=
  Lx.app (Lx.app (Lx.paren (R := fun _ => True) (.inl rfl)) h fun _ _ => trivial) (Lx.paren (.inr (.inl rfl))) fun rest _ => End.paren rest
theorem lv6_ok (k : Int) : 1 ≤ lv6 (lev k) ∧ lv6 (lev k) ≤ 6 := by
  have := lev_range k
  unfold lv6
  split <;> omega
/-- What is printed is read. -/
theorem read_back {x : Ex} (hx : Ok x) (hn : nestX x ≤ 12) (hlen : (textX x).length ≤ 16384) :
    ∃ tx y, Sm x y ∧ outcome (textX x) = (tx ++ [endTok (textX x).length], 0, 0) ∧ parse (tx ++ [endTok (textX x).length]) 0 = .ok (y, [endTok (textX x).length]) :=
  read_gen hlen hx.lex (lv6_ok _) fun tx h => back hx 0 (by omega) tx h
end Go.Proofs.YtdibkgjldmepcaaDoor.Xp
