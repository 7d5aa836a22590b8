/- Expressions as trees, how a value reads as one; what a parser of tokens answers. -/
import Derived.Test.YtdibkgjldmepcaaDoorGenX
namespace Go.Proofs.YtdibkgjldmepcaaDoor.Xp
open Go.RowKit Mem Lex Gen
set_option linter.unusedVariables false

inductive Ex where
  | node (k n : Int) (s : Bytes) (kids : List Ex) (p : Int)
mutual
def fields : Ex → List D
  | .node k n s kids p => [.int k, .int n, .str s, .row (fieldsL kids), .int p]
def fieldsL : List Ex → List (List D)
  | [] => []
  | x :: l => fields x :: fieldsL l
end
theorem fieldsL_len : ∀ l : List Ex, (fieldsL l).length = l.length
  | [] => rfl
  | x :: l => by rw [fieldsL]; simp [fieldsL_len l]
theorem fieldsL_get : ∀ (l : List Ex) (i : Nat), (fieldsL l)[i]? = (l[i]?).map fields
  | [], i => by rw [fieldsL]; simp
  | x :: l, 0 => by rw [fieldsL]; rfl
  | x :: l, i + 1 => by rw [fieldsL]; simpa using fieldsL_get l i
/-- A value reads as the tree. -/
def Tr (w : World) (P : Nat → Prop) (v : Value) (x : Ex) : Prop := Ex5 w P v (fields x)
section
variable {w w' : World} {P P' S : Nat → Prop} {v : Value} {x : Ex}
theorem Tr.keep (h : Tr w P v x) (hf : Foot S w w') (hS : ∀ k, S k → ¬ P k) : Tr w' P v x := Ex5.keep h hf hS
theorem Tr.weak (h : Tr w P v x) (hl : ∀ k, k < w.heap.size → P k → P' k) : Tr w P' v x := Ex5.weak h hl
theorem Tr.still (h : Tr w P v x) (hf : Foot (fun _ => False) w w') : Tr w' P v x := Ex5.keep h hf fun _ h => h.elim
end
theorem Tr.open {w : World} {P : Nat → Prop} {v : Value} {k n p : Int} {s : Bytes} {kids : List Ex} (h : Tr w P v (.node k n s kids p)) :
    ∃ a c, v = .agg #[.int .i64 k, .int .i64 n, .string (mk s), .slice a kids.length c, .int .i64 p] ∧ kids.length ≤ c ∧ c ≤ maxLen ∧
      ∀ i x, kids[i]? = some x → ∃ g off u0 u1 u2 u3 u4, a = some ⟨g, off, none⟩ ∧
        (w.cell? ⟨g, off + i * 5, none⟩ = some u0 ∧ w.cell? ⟨g, off + i * 5 + 1, none⟩ = some u1 ∧ w.cell? ⟨g, off + i * 5 + 2, none⟩ = some u2 ∧ w.cell? ⟨g, off + i * 5 + 3, none⟩ = some u3 ∧ w.cell? ⟨g, off + i * 5 + 4, none⟩ = some u4) ∧
        Tr w P (.agg #[u0, u1, u2, u3, u4]) x := by
  obtain ⟨d0, d1, d2, d3, d4, u0, u1, u2, u3, u4, h1, h2, r0, r1, r2, r3, r4⟩ := h.out
  rw [fields] at h1
  simp only [List.cons.injEq, and_true] at h1
  obtain ⟨rfl, rfl, rfl, rfl, rfl⟩ := h1
  obtain ⟨a, c, hv, hc1, hc2, hrec⟩ := r3.rec5
  rw [fieldsL_len] at hv hc1
  refine ⟨a, c, by rw [h2, r0.toInt, r1.toInt, r2.toStr, r4.toInt, hv], hc1, hc2, fun i x hi => ?_⟩
  obtain ⟨k', n', s', kids', p'⟩ := x
  have hg : (fieldsL kids)[i]? = some [.int k', .int n', .str s', .row (fieldsL kids'), .int p'] := by rw [fieldsL_get, hi]; simp [fields]
  obtain ⟨g, off, y0, y1, y2, y3, y4, ha, hc, q0, q1, q2, q3, q4⟩ := hrec i _ _ _ _ _ hg
  exact ⟨g, off, y0, y1, y2, y3, y4, ha, hc, _, _, _, _, _, _, _, _, _, _, by rw [fields], rfl, q0, q1, q2, q3, q4⟩
theorem Tr.mk' {w : World} {P : Nat → Prop} {u : Value} {k n p : Int} {s : Bytes} {kids : List Ex} (h : Reads w P u (.row (fieldsL kids))) : Tr w P (.agg #[.int .i64 k, .int .i64 n, .string (Gen.mk s), u, .int .i64 p]) (.node k n s kids p) :=
  ⟨_, _, _, _, _, _, _, _, _, _, by rw [fields], rfl, .int k, .int n, .str s, h, .int p⟩
theorem Tr.leaf {w : World} {P : Nat → Prop} {k n p : Int} {s : Bytes} : Tr w P (.agg #[.int .i64 k, .int .i64 n, .string (Gen.mk s), .slice none 0 0, .int .i64 p]) (.node k n s [] p) :=
  Tr.mk' (by rw [fieldsL]; exact Reads.nil)
theorem Tr.one {w : World} {P : Nat → Prop} {g : Nat} {t : TypeId} {u0 u1 u2 u3 u4 : Value} {x : Ex} {k n p : Int} {s : Bytes} (hA : At w g t #[u0, u1, u2, u3, u4]) (hP : P g) (hE : Tr w P (.agg #[u0, u1, u2, u3, u4]) x) :
    Tr w P (.agg #[.int .i64 k, .int .i64 n, .string (Gen.mk s), .slice (some ⟨g, 0, none⟩) 1 1, .int .i64 p]) (.node k n s [x] p) :=
  Tr.mk' (by rw [fieldsL, fieldsL]; exact Reads.one5 hA hP hE)
theorem Tr.two {w : World} {P : Nat → Prop} {g : Nat} {t : TypeId} {u0 u1 u2 u3 u4 y0 y1 y2 y3 y4 : Value} {x y : Ex} {k n p : Int} {s : Bytes} (hA : At w g t #[u0, u1, u2, u3, u4, y0, y1, y2, y3, y4]) (hP : P g)
    (hE : Tr w P (.agg #[u0, u1, u2, u3, u4]) x) (hE' : Tr w P (.agg #[y0, y1, y2, y3, y4]) y) :
    Tr w P (.agg #[.int .i64 k, .int .i64 n, .string (Gen.mk s), .slice (some ⟨g, 0, none⟩) 2 2, .int .i64 p]) (.node k n s [x, y] p) :=
  Tr.mk' (by rw [fieldsL, fieldsL, fieldsL]; exact Reads.two5 hA hP hE hE')
/-- A value of an expression's shape. -/
def Five (v : Value) : Prop := ∃ k n s a m c p, v = .agg #[.int .i64 k, .int .i64 n, .string s, .slice a m c, .int .i64 p]
theorem Tr.five {w : World} {P : Nat → Prop} {v : Value} {x : Ex} (h : Tr w P v x) : Five v := by
  obtain ⟨k, n, s, kids, p⟩ := x
  obtain ⟨a, c, rfl, _⟩ := h.open
  exact ⟨k, n, _, a, _, c, p, rfl⟩

-- the parser
def isS (t : Tok) (s : Bytes) : Bool := t.kind == 3 && t.text == s
def isW (t : Tok) (s : Bytes) : Bool := t.kind == 1 && t.text == s
def isN (t : Tok) : Bool := t.kind == 1 && !reserved t.text
/-- The kind of a binary operator's expression; 0: it is none. -/
def signK (s : Bytes) : Int :=
  if s = [42] then 7 else if s = [47] then 8 else if s = [37] then 9 else if s = [43] then 10 else if s = [45] then 11 else if s = [60] then 12 else if s = [60, 61] then 13 else if s = [62] then 14 else if s = [62, 61] then 15
  else if s = [61, 61] then 16 else if s = [33, 61] then 17 else if s = [38, 38] then 18 else if s = [124, 124] then 19 else 0
def binK (t : Tok) : Int := if t.kind = 3 then signK t.text else 0
def badT (t : Tok) : Int × Int := (if t.kind = 4 then 12 else 11, t.at_)
abbrev PRes := Except (Int × Int) (Ex × List Tok)
def thenP (r : PRes) (f : Ex → List Tok → PRes) : PRes := match r with | .error e => .error e | .ok (x, l) => f x l
/-- What a token must be, behind which nothing is read. -/
def wantS (s : Bytes) (l : List Tok) (f : List Tok → PRes) : PRes := match l with | [] => .error (0, 0) | t :: r => if isS t s then f r else .error (badT t)
/-- 'in', behind it: the name in brackets. -/
def insP (l : List Tok) : Except (Int × Int) (Bytes × List Tok) := match l with
  | [] => .error (0, 0)
  | t :: r => if isS t [40] then (match r with
    | [] => .error (0, 0)
    | t1 :: r1 => if isN t1 then (match r1 with
      | [] => .error (0, 0)
      | t2 :: r2 => if isS t2 [41] then .ok (t1.text, r2) else .error (badT t2)) else .error (badT t1)) else .error (badT t)
inductive What where
  | lvl (n : Nat)
  | loop (n : Nat) (x : Ex)
  | un
  | prim
def prs : Nat → What → List Tok → Nat → PRes
  | 0, _, _, _ => .error (0, 0)
  | F + 1, .lvl n, l, o => if n = 6 then prs F .un l o else thenP (prs F (.lvl (n + 1)) l o) fun x r => prs F (.loop n x) r o
  | F + 1, .loop n x, l, o => match l with
    | [] => .error (0, 0)
    | t :: r => if lev (binK t) = n then thenP (prs F (.lvl (n + 1)) r o) fun y r' => if n = 3 then .ok (.node (binK t) 0 [] [x, y] t.at_, r') else prs F (.loop n (.node (binK t) 0 [] [x, y] t.at_)) r' o
      else .ok (x, t :: r)
  | F + 1, .un, l, o => match l with
    | [] => .error (0, 0)
    | t :: r => if isS t [45] then (if o = 12 then .error (14, t.at_) else thenP (prs F .un r (o + 1)) fun x r' => .ok (.node 5 0 [] [x] t.at_, r'))
      else if isS t [33] then (if o = 12 then .error (14, t.at_) else thenP (prs F .un r (o + 1)) fun x r' => .ok (.node 6 0 [] [x] t.at_, r'))
      else prs F .prim l o
  | F + 1, .prim, l, o => match l with
    | [] => .error (0, 0)
    | t :: r => if isS t [40] then (if o = 12 then .error (14, t.at_) else thenP (prs F (.lvl 1) r (o + 1)) fun x r' => wantS [41] r' fun r'' => .ok (x, r''))
      else if isW t [105, 110] then (match insP r with | .error e => .error e | .ok (s, r') => .ok (.node 4 0 s [] t.at_, r'))
      else if isN t then .ok (.node 2 0 t.text [] t.at_, r)
      else if isS t [36] then .ok (.node 3 0 [] [] t.at_, r)
      else if t.kind = 2 then .ok (.node 1 t.n [] [] t.at_, r)
      else .error (badT t)
/-- How much is enough. -/
def need : What → Nat → Nat
  | .lvl n, r => 16 * r + 2 * (8 - n)
  | .loop _ _, r => 16 * r + 15
  | .un, r => 16 * r + 2
  | .prim, r => 16 * r + 1
/-- A token as a value. -/
def tokV (t : Tok) : Value := .agg #[.int .i64 t.kind, .int .i64 t.at_, .int .i64 t.en, strV t.text, .int .i64 t.n]
theorem strV_mk (t : Bytes) : strV t = .string (mk t) := rfl
theorem badT_ne (t : Tok) : (badT t).1 = 12 ∨ (badT t).1 = 11 := by unfold badT; split; exact .inl rfl; exact .inr rfl
theorem isS_kind {t : Tok} {s : Bytes} (h : isS t s = true) : t.kind ≠ 4 := by unfold isS at h; simp at h; omega
theorem isW_kind {t : Tok} {s : Bytes} (h : isW t s = true) : t.kind ≠ 4 := by unfold isW at h; simp at h; omega
theorem isN_kind {t : Tok} (h : isN t = true) : t.kind ≠ 4 := by unfold isN at h; simp at h; omega
theorem binK_kind {t : Tok} (h : binK t ≠ 0) : t.kind ≠ 4 := by unfold binK at h; split at h <;> omega
theorem drop_at {ts : List Tok} {i : Nat} (h : i < ts.length) : ts.drop i = ts[i] :: ts.drop (i + 1) := (List.drop_eq_getElem_cons h)
/-- Tokens whose last is the end. -/
def Ends (ts : List Tok) : Prop := ∃ t, ts.getLast? = some t ∧ t.kind = 4
theorem Ends.pos {ts : List Tok} (h : Ends ts) : 0 < ts.length := by
  obtain ⟨t, h1, _⟩ := h
  cases ts with
  | nil => cases h1
  | cons a b => simp
theorem Ends.last {ts : List Tok} (h : Ends ts) {i : Nat} (hi : i < ts.length) (hk : ts[i].kind ≠ 4) : i + 1 < ts.length := by
  obtain ⟨t, h1, h2⟩ := h
  rcases Nat.lt_or_ge (i + 1) ts.length with h3 | h3
  · exact h3
  · exfalso
    have : i = ts.length - 1 := by omega
    subst this
    rw [List.getLast?_eq_getElem?, List.getElem?_eq_getElem hi] at h1
    exact hk (by rw [Option.some.inj h1]; exact h2)
end Go.Proofs.YtdibkgjldmepcaaDoor.Xp
