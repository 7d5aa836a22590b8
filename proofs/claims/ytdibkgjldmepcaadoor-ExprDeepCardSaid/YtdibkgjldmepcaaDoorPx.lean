/- Expressions that can be read: their text, how deep they nest. No program. -/
import Derived.Test.YtdibkgjldmepcaaDoorPl
namespace Go.Proofs.YtdibkgjldmepcaaDoor.Xp
open Go.RowKit Mem Lex Gen
set_option linter.unusedVariables false

def Ex.kind : Ex → Int | .node k _ _ _ _ => k
/-- The expressions with the fields that their kinds have. -/
inductive Ok : Ex → Prop
  | num (n p : Int) (h0 : 0 ≤ n) (h1 : n ≤ 9223372036854775807) : Ok (.node 1 n [] [] p)
  | var (s : Bytes) (p : Int) (h : Ident s) : Ok (.node 2 0 s [] p)
  | arg (p : Int) : Ok (.node 3 0 [] [] p)
  | inn (s : Bytes) (p : Int) (h : Ident s) : Ok (.node 4 0 s [] p)
  | un (k : Int) (a : Ex) (p : Int) (h : k = 5 ∨ k = 6) (ha : Ok a) : Ok (.node k 0 [] [a] p)
  | bin (k : Int) (a b : Ex) (p : Int) (h : 7 ≤ k ∧ k ≤ 19) (ha : Ok a) (hb : Ok b) : Ok (.node k 0 [] [a, b] p)
def wordD (k n : Int) (s : Bytes) : Bytes := if k = 1 then decT n else if k = 2 then s else if k = 3 then [36] else if k = 4 then [105, 110, 40] ++ s ++ [41] else opT k
def textX : Ex → Bytes
  | .node k n s [] p => wordD k n s
  | .node k n s [a] p => opT k ++ wrapT (lev a.kind) 6 (textX a)
  | .node k n s (a :: b :: _) p => wrapT (lev a.kind) (leftA k) (textX a) ++ [32] ++ opT k ++ [32] ++ wrapT (lev b.kind) (lev k + 1) (textX b)
theorem Ok.kind {x : Ex} (h : Ok x) : 1 ≤ x.kind ∧ x.kind ≤ 19 := by
  cases h with
  | un k a p h => simp only [Ex.kind]; omega
  | bin k a b p h => simp only [Ex.kind]; omega
  | _ => simp only [Ex.kind]; omega
theorem lev_bin {k : Int} (h : 7 ≤ k ∧ k ≤ 19) : 1 ≤ lev k ∧ lev k ≤ 5 := by unfold lev; repeat' split
                                                                             all_goals omega
theorem lev_un {k : Int} (h : k = 5 ∨ k = 6) : lev k = 6 := by rcases h with rfl | rfl <;> rfl
theorem lev_range (k : Int) : 1 ≤ lev k ∧ lev k ≤ 7 := by unfold lev; repeat' split
                                                          all_goals omega
/-- How many brackets and signs are open at most. -/
def brk (l asks : Int) : Nat := if l < asks then 1 else 0
def nestX : Ex → Nat
  | .node k n s [] p => 0
  | .node k n s [a] p => nestX a + brk (lev a.kind) 6 + 1
  | .node k n s (a :: b :: _) p => max (nestX a + brk (lev a.kind) (leftA k)) (nestX b + brk (lev b.kind) (lev k + 1))
/-- How many nodes. -/
def sizeX : Ex → Nat
  | .node k n s [] p => 1
  | .node k n s [a] p => sizeX a + 1
  | .node k n s (a :: b :: _) p => sizeX a + sizeX b + 1
theorem Ok.textlen {x : Ex} (h : Ok x) : (textX x).length ≤ 30 * sizeX x := by
  induction h with
  | num n p h0 h1 =>
    have h2 := decS_size (n := n) (by omega) h1
    have h3 : (bs (decS n)).length = (decS n).size := bs_len _
    have h4 : (decT n).length ≤ 19 := by have : (bs (decS n)) = decT n := rfl; rw [← this]; omega
    simp only [textX, sizeX, wordD, if_true]; omega
  | var s p h => have := ident_len h; simp [textX, sizeX, wordD]; omega
  | arg p => simp [textX, sizeX, wordD]
  | inn s p h => have := ident_len h; simp [textX, sizeX, wordD]; omega
  | un k a p h ha ih =>
    have := wrap_len (lev a.kind) 6 (textX a)
    have := op_len k
    simp only [textX, sizeX, List.length_append]; omega
  | bin k a b p h ha hb ia ib =>
    have := wrap_len (lev a.kind) (leftA k) (textX a)
    have := wrap_len (lev b.kind) (lev k + 1) (textX b)
    have := op_len k
    simp only [textX, sizeX, List.length_append, List.length_cons, List.length_nil]; omega
/-- Alike but for the places. -/
inductive Sm : Ex → Ex → Prop
  | mk (k n : Int) (s : Bytes) (l m : List Ex) (p q : Int) (hl : l.length = m.length) (h : ∀ (i : Nat) (a b : Ex), l[i]? = some a → m[i]? = some b → Sm a b) : Sm (.node k n s l p) (.node k n s m q)
theorem len_two {α : Type} {m : List α} (h : m.length = 2) : ∃ c d, m = [c, d] := by
  match m, h with
  | [c, d], _ => exact ⟨c, d, rfl⟩
theorem Sm.leaf (k n : Int) (s : Bytes) (p q : Int) : Sm (.node k n s [] p) (.node k n s [] q) := .mk _ _ _ _ _ _ _ rfl fun i a b h => by simp at h
theorem Sm.one {k n : Int} {s : Bytes} {a b : Ex} {p q : Int} (h : Sm a b) : Sm (.node k n s [a] p) (.node k n s [b] q) := .mk _ _ _ _ _ _ _ rfl fun i x y hx hy => by
  cases i with
  | zero => cases hx; cases hy; exact h
  | succ i => simp at hx
theorem Sm.two {k n : Int} {s : Bytes} {a b c d : Ex} {p q : Int} (h : Sm a c) (h' : Sm b d) : Sm (.node k n s [a, b] p) (.node k n s [c, d] q) := .mk _ _ _ _ _ _ _ rfl fun i x y hx hy => by
  cases i with
  | zero => cases hx; cases hy; exact h
  | succ i => cases i with
    | zero => cases hx; cases hy; exact h'
    | succ i => simp at hx
theorem Sm.kind {a b : Ex} (h : Sm a b) : a.kind = b.kind := by cases h; rfl
/-- What is alike is right, and has the same text. -/
theorem Ok.sm {x : Ex} (h : Ok x) : ∀ {y}, Sm x y → Ok y ∧ textX y = textX x ∧ nestX y = nestX x ∧ sizeX y = sizeX x := by
  induction h with
  | num n p h0 h1 =>
    intro y hy
    obtain ⟨k', n', s', m, q⟩ := y
    cases hy with
    | mk _ _ _ l _ _ _ hl h =>
      obtain rfl : m = [] := List.eq_nil_of_length_eq_zero hl.symm
      exact ⟨.num n _ h0 h1, rfl, rfl, rfl⟩
  | var s p h =>
    intro y hy
    obtain ⟨k', n', s', m, q⟩ := y
    cases hy with
    | mk _ _ _ l _ _ _ hl _ =>
      obtain rfl : m = [] := List.eq_nil_of_length_eq_zero hl.symm
      exact ⟨.var s _ h, rfl, rfl, rfl⟩
  | arg p =>
    intro y hy
    obtain ⟨k', n', s', m, q⟩ := y
    cases hy with
    | mk _ _ _ l _ _ _ hl _ =>
      obtain rfl : m = [] := List.eq_nil_of_length_eq_zero hl.symm
      exact ⟨.arg _, rfl, rfl, rfl⟩
  | inn s p h =>
    intro y hy
    obtain ⟨k', n', s', m, q⟩ := y
    cases hy with
    | mk _ _ _ l _ _ _ hl _ =>
      obtain rfl : m = [] := List.eq_nil_of_length_eq_zero hl.symm
      exact ⟨.inn s _ h, rfl, rfl, rfl⟩
  | un k a p h ha ih =>
    intro y hy
    obtain ⟨k', n', s', m, q⟩ := y
    cases hy with
    | mk _ _ _ l _ _ _ hl hh =>
      obtain ⟨b, rfl⟩ : ∃ b, m = [b] := List.length_eq_one_iff.1 hl.symm
      have h1 := hh 0 a b rfl rfl
      obtain ⟨i1, i2, i3, i4⟩ := ih h1
      exact ⟨.un k b _ h i1, by simp only [textX, i2, h1.kind], by simp only [nestX, i3, h1.kind], by simp only [sizeX, i4]⟩
  | bin k a b p h ha hb ia ib =>
    intro y hy
    obtain ⟨k', n', s', m, q⟩ := y
    cases hy with
    | mk _ _ _ l _ _ _ hl hh =>
      obtain ⟨c, d, rfl⟩ : ∃ c d, m = [c, d] := len_two hl.symm
      have h1 := hh 0 a c rfl rfl
      have h2 := hh 1 b d rfl rfl
      obtain ⟨i1, i2, i3, i4⟩ := ia h1
      obtain ⟨j1, j2, j3, j4⟩ := ib h2
      exact ⟨.bin k c d _ h i1 j1, by simp only [textX, i2, j2, h1.kind, h2.kind], by simp only [nestX, i3, j3, h1.kind, h2.kind], by simp only [sizeX, i4, j4]⟩
/-- A generated expression. -/
theorem ExT.ok {d : Nat} {k : Int} {f : List D} {t : Bytes} (h : ExT d k f t) : ∃ x, f = fields x ∧ Ok x ∧ textX x = t ∧ x.kind = k ∧ nestX x ≤ 2 * d ∧ sizeX x ≤ 2 ^ (d + 1) - 1 := by
  induction h with
  | num d n h => 
    have h2 : 2 ≤ 2 ^ (d + 1) := by rw [Nat.pow_succ]; have := Nat.one_le_two_pow (n := d); omega
    refine ⟨.node 1 n [] [] 0, by simp [fields, fieldsL], .num n 0 (by omega) (by omega), ?_, rfl, by simp [nestX], by simp [sizeX]; omega⟩
    simp [textX, wordD, decT]; intro hn; omega
  | var d s h =>
    have h2 : 2 ≤ 2 ^ (d + 1) := by rw [Nat.pow_succ]; have := Nat.one_le_two_pow (n := d); omega
    exact ⟨.node 2 0 s [] 0, by simp [fields, fieldsL], .var s 0 h, rfl, rfl, by simp [nestX], by simp [sizeX]; omega⟩
  | arg d =>
    have h2 : 2 ≤ 2 ^ (d + 1) := by rw [Nat.pow_succ]; have := Nat.one_le_two_pow (n := d); omega
    exact ⟨.node 3 0 [] [] 0, by simp [fields, fieldsL], .arg 0, rfl, rfl, by simp [nestX], by simp [sizeX]; omega⟩
  | inn d s h =>
    have h2 : 2 ≤ 2 ^ (d + 1) := by rw [Nat.pow_succ]; have := Nat.one_le_two_pow (n := d); omega
    exact ⟨.node 4 0 s [] 0, by simp [fields, fieldsL], .inn s 0 h, rfl, rfl, by simp [nestX], by simp [sizeX]; omega⟩
  | un d k k1 f t h h1 ih =>
    obtain ⟨x, rfl, hx, rfl, rfl, hn, hz⟩ := ih
    refine ⟨.node k 0 [] [x] 0, by simp [fields, fieldsL], .un k x 0 h hx, by simp [textX], rfl, ?_, ?_⟩
    · simp only [nestX]; have : brk (lev x.kind) 6 ≤ 1 := by unfold brk; split <;> omega
      omega
    · simp only [sizeX]; rw [Nat.pow_succ]; have := Nat.one_le_two_pow (n := d + 1); omega
  | bin d k k1 k2 f1 f2 t1 t2 h h1 h2 ih1 ih2 =>
    obtain ⟨x, rfl, hx, rfl, rfl, hn, hz⟩ := ih1
    obtain ⟨y, rfl, hy, rfl, rfl, hm, hw⟩ := ih2
    refine ⟨.node k 0 [] [x, y] 0, by simp [fields, fieldsL], .bin k x y 0 h hx hy, by simp [textX], rfl, ?_, ?_⟩
    · simp only [nestX]
      have : brk (lev x.kind) (leftA k) ≤ 1 := by unfold brk; split <;> omega
      have : brk (lev y.kind) (lev k + 1) ≤ 1 := by unfold brk; split <;> omega
      omega
    · simp only [sizeX]; rw [Nat.pow_succ]; have := Nat.one_le_two_pow (n := d + 1); omega
end Go.Proofs.YtdibkgjldmepcaaDoor.Xp
