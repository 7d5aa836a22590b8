/- What a value reads as, by data; expressions and their texts. -/
import Derived.Test.YtdibkgjldmepcaaDoorGenE
import Derived.Deep.RegionHeld3
namespace Go.Proofs.YtdibkgjldmepcaaDoor.Gen
open Go.RowKit Mem Lex
set_option linter.unusedVariables false

theorem hold {w w' : World} {a : Addr} {v : Value} (hF : Foot (fun _ => False) w w') (h : w.cell? a = some v) : w'.cell? a = some v := by
  rw [← h]
  exact hF.cell (World.block_lt_of_cell? w a h) id
theorem holdF {w0 w w' : World} (hF : Foot (fun _ => False) w w') (h : Hid (Foot (fun _ => False) w0 w)) : Hid (Foot (fun _ => False) w0 w') := Lib.hid (h.out.trans hF fun _ _ h => h)
def mk (t : Bytes) : ByteArray := ⟨t.toArray⟩
theorem bs_mk (t : Bytes) : bs (mk t) = t := rfl
theorem mk_size (t : Bytes) : (mk t).size = t.length := (bs_len (mk t)).symm
theorem eq_mk {x : ByteArray} {t : Bytes} (h : bs x = t) : x = mk t := bs_inj h

/-- Data: a number, a text, a row of records. -/
inductive D where
  | int (n : Int)
  | str (t : Bytes)
  | row (l : List (List D))
/-- The value reads so; all its blocks are P's. -/
inductive Reads (w : World) (lo : Nat → Prop) : Value → D → Prop
  | int (n : Int) : Reads w lo (.int .i64 n) (.int n)
  | str (t : Bytes) : Reads w lo (.string (mk t)) (.str t)
  | row (a : Option Addr) (c sz : Nat) (l : List (List D)) (cs : Nat → Nat → Value) (hsz : ∀ x ∈ l, x.length = sz) (hc : l.length ≤ c ∧ c ≤ maxLen)
      (hb : ∀ x, a = some x → lo x.block ∧ x.block < w.heap.size)
      (ha : 0 < l.length → ∃ g off, a = some ⟨g, off, none⟩)
      (hcell : ∀ g off k f d, a = some ⟨g, off, none⟩ → (l[k]?).bind (·[f]?) = some d → w.cell? ⟨g, off + k * sz + f, none⟩ = some (cs k f))
      (hr : ∀ k f d, (l[k]?).bind (·[f]?) = some d → Reads w lo (cs k f) d) : Reads w lo (.slice a l.length c) (.row l)
theorem Reads.keep {w w' : World} {lo : Nat → Prop} {v : Value} {d : D} {S : Nat → Prop} (h : Reads w lo v d) (hf : Foot S w w') (hS : ∀ k, S k → ¬ lo k) : Reads w' lo v d := by
  induction h with
  | int n => exact .int n
  | str t => exact .str t
  | row a c sz l cs hsz hc hb ha hcell hr ih =>
    refine .row a c sz l cs hsz hc (fun x hx => ⟨(hb x hx).1, Nat.lt_of_lt_of_le (hb x hx).2 hf.size⟩) ha (fun g off k f d hg hd => ?_) ih
    have h1 := hb _ hg
    rw [hf.cell (p := ⟨g, off + k * sz + f, none⟩) h1.2 (fun h => hS _ h h1.1)]
    exact hcell g off k f d hg hd
theorem Reads.still {w w' : World} {lo : Nat → Prop} {v : Value} {d : D} (h : Reads w lo v d) (hf : Foot (fun _ => False) w w') : Reads w' lo v d := h.keep hf fun _ h => h.elim
theorem Reads.weak {w : World} {lo lo' : Nat → Prop} {v : Value} {d : D} (h : Reads w lo v d) (hl : ∀ k, k < w.heap.size → lo k → lo' k) : Reads w lo' v d := by
  induction h with
  | int n => exact .int n
  | str t => exact .str t
  | row a c sz l cs hsz hc hb ha hcell hr ih => exact .row a c sz l cs hsz hc (fun x hx => ⟨hl _ (hb x hx).2 (hb x hx).1, (hb x hx).2⟩) ha hcell ih
theorem Reads.toInt {w : World} {lo : Nat → Prop} {v : Value} {n : Int} (h : Reads w lo v (.int n)) : v = .int .i64 n := by cases h; rfl
theorem Reads.toStr {w : World} {lo : Nat → Prop} {v : Value} {t : Bytes} (h : Reads w lo v (.str t)) : v = .string (mk t) := by cases h; rfl
/-- An empty row. -/
theorem Reads.toNil {w : World} {lo : Nat → Prop} {v : Value} (h : Reads w lo v (.row [])) : ∃ a c, v = .slice a 0 c := by cases h; exact ⟨_, _, rfl⟩
/-- A row's k-th record, of five fields. -/
theorem Reads.rec5 {w : World} {lo : Nat → Prop} {v : Value} {l : List (List D)} (h : Reads w lo v (.row l)) : ∃ a c, v = .slice a l.length c ∧ l.length ≤ c ∧ c ≤ maxLen ∧
    ∀ k d0 d1 d2 d3 d4, l[k]? = some [d0, d1, d2, d3, d4] → ∃ g off u0 u1 u2 u3 u4, a = some ⟨g, off, none⟩ ∧
      (w.cell? ⟨g, off + k * 5, none⟩ = some u0 ∧ w.cell? ⟨g, off + k * 5 + 1, none⟩ = some u1 ∧ w.cell? ⟨g, off + k * 5 + 2, none⟩ = some u2 ∧ w.cell? ⟨g, off + k * 5 + 3, none⟩ = some u3 ∧ w.cell? ⟨g, off + k * 5 + 4, none⟩ = some u4) ∧
      Reads w lo u0 d0 ∧ Reads w lo u1 d1 ∧ Reads w lo u2 d2 ∧ Reads w lo u3 d3 ∧ Reads w lo u4 d4 := by
  cases h with
  | row a c sz _ cs hsz hc hb ha hcell hr =>
    refine ⟨a, c, rfl, hc.1, hc.2, fun k d0 d1 d2 d3 d4 hk => ?_⟩
    have hm := List.mem_of_getElem? hk
    obtain rfl : sz = 5 := (hsz _ hm).symm
    obtain ⟨g, off, rfl⟩ := ha (List.length_pos_of_mem hm)
    refine ⟨g, off, cs k 0, cs k 1, cs k 2, cs k 3, cs k 4, rfl, ⟨?_, ?_, ?_, ?_, ?_⟩, hr k 0 d0 (by rw [hk]; rfl), hr k 1 d1 (by rw [hk]; rfl), hr k 2 d2 (by rw [hk]; rfl), hr k 3 d3 (by rw [hk]; rfl), hr k 4 d4 (by rw [hk]; rfl)⟩
    · exact hcell g off k 0 d0 rfl (by rw [hk]; rfl)
    · exact hcell g off k 1 d1 rfl (by rw [hk]; rfl)
    · exact hcell g off k 2 d2 rfl (by rw [hk]; rfl)
    · exact hcell g off k 3 d3 rfl (by rw [hk]; rfl)
    · exact hcell g off k 4 d4 rfl (by rw [hk]; rfl)

/-- An expression's five fields. -/
structure Ex5 (w : World) (lo : Nat → Prop) (v : Value) (f : List D) : Prop where
  out : ∃ d0 d1 d2 d3 d4 u0 u1 u2 u3 u4, f = [d0, d1, d2, d3, d4] ∧ v = .agg #[u0, u1, u2, u3, u4] ∧ Reads w lo u0 d0 ∧ Reads w lo u1 d1 ∧ Reads w lo u2 d2 ∧ Reads w lo u3 d3 ∧ Reads w lo u4 d4
theorem Ex5.still {w w' : World} {lo : Nat → Prop} {v : Value} {f : List D} (h : Ex5 w lo v f) (hf : Foot (fun _ => False) w w') : Ex5 w' lo v f := by
  obtain ⟨d0, d1, d2, d3, d4, u0, u1, u2, u3, u4, h1, h2, r0, r1, r2, r3, r4⟩ := h.out
  exact ⟨d0, d1, d2, d3, d4, u0, u1, u2, u3, u4, h1, h2, r0.still hf, r1.still hf, r2.still hf, r3.still hf, r4.still hf⟩

theorem Ex5.keep {w w' : World} {lo : Nat → Prop} {v : Value} {f : List D} {S : Nat → Prop} (h : Ex5 w lo v f) (hf : Foot S w w') (hS : ∀ k, S k → ¬ lo k) : Ex5 w' lo v f := by
  obtain ⟨d0, d1, d2, d3, d4, u0, u1, u2, u3, u4, h1, h2, r0, r1, r2, r3, r4⟩ := h.out
  exact ⟨d0, d1, d2, d3, d4, u0, u1, u2, u3, u4, h1, h2, r0.keep hf hS, r1.keep hf hS, r2.keep hf hS, r3.keep hf hS, r4.keep hf hS⟩
theorem Ex5.weak {w : World} {lo lo' : Nat → Prop} {v : Value} {f : List D} (h : Ex5 w lo v f) (hl : ∀ k, k < w.heap.size → lo k → lo' k) : Ex5 w lo' v f := by
  obtain ⟨d0, d1, d2, d3, d4, u0, u1, u2, u3, u4, h1, h2, r0, r1, r2, r3, r4⟩ := h.out
  exact ⟨d0, d1, d2, d3, d4, u0, u1, u2, u3, u4, h1, h2, r0.weak hl, r1.weak hl, r2.weak hl, r3.weak hl, r4.weak hl⟩

/-- A piece in brackets where it binds too little. -/
def wrapT (l asks : Int) (t : Bytes) : Bytes := if l < asks then [40] ++ t ++ [41] else t
def leftA (k : Int) : Int := if lev k = 3 then 4 else lev k
/-- A name as generated texts have it. -/
def Ident (s : Bytes) : Prop := nameB s = true
/-- The fields of an expression so deep, its kind, its text. -/
inductive ExT : Nat → Int → List D → Bytes → Prop
  | num (d : Nat) (n : Nat) (h : n ≤ 9223372036854775807) : ExT d 1 [.int 1, .int n, .str [], .row [], .int 0] (dgs n)
  | var (d : Nat) (s : Bytes) (h : Ident s) : ExT d 2 [.int 2, .int 0, .str s, .row [], .int 0] s
  | arg (d : Nat) : ExT d 3 [.int 3, .int 0, .str [], .row [], .int 0] [36]
  | inn (d : Nat) (s : Bytes) (h : Ident s) : ExT d 4 [.int 4, .int 0, .str s, .row [], .int 0] ([105, 110, 40] ++ s ++ [41])
  | un (d : Nat) (k k1 : Int) (f : List D) (t : Bytes) (h : k = 5 ∨ k = 6) (h1 : ExT d k1 f t) : ExT (d + 1) k [.int k, .int 0, .str [], .row [f], .int 0] (opT k ++ wrapT (lev k1) 6 t)
  | bin (d : Nat) (k k1 k2 : Int) (f1 f2 : List D) (t1 t2 : Bytes) (h : 7 ≤ k ∧ k ≤ 19) (h1 : ExT d k1 f1 t1) (h2 : ExT d k2 f2 t2) :
      ExT (d + 1) k [.int k, .int 0, .str [], .row [f1, f2], .int 0] (wrapT (lev k1) (leftA k) t1 ++ [32] ++ opT k ++ [32] ++ wrapT (lev k2) (lev k + 1) t2)
theorem ident_len {s : Bytes} (h : Ident s) : s.length ≤ 24 := by
  unfold Ident at h
  cases s with
  | nil => simp
  | cons b r =>
    simp only [nameB, Bool.and_eq_true, decide_eq_true_eq] at h
    exact h.1.1.1
theorem wrap_len (l asks : Int) (t : Bytes) : (wrapT l asks t).length ≤ t.length + 2 := by
  unfold wrapT
  split <;> simp
theorem op_len (k : Int) : (opT k).length ≤ 2 := by
  unfold opT
  rcases Nat.lt_or_ge k.toNat 20 with h | h
  · have h6 : ∀ l ∈ opL, l.length ≤ 2 := by decide
    rw [List.getD_eq_getElem?_getD, List.getElem?_eq_getElem h, Option.getD_some]
    exact h6 _ (List.getElem_mem h)
  · rw [List.getD_eq_getElem?_getD, List.getElem?_eq_none h]; simp
theorem ExT.kind {d : Nat} {k : Int} {f : List D} {t : Bytes} (h : ExT d k f t) : 1 ≤ k ∧ k ≤ 19 := by
  cases h with
  | un _ _ _ _ _ h => omega
  | bin _ _ _ _ _ _ _ _ h => exact ⟨by omega, h.2⟩
  | _ => omega
theorem ExT.len {d : Nat} {k : Int} {f : List D} {t : Bytes} (h : ExT d k f t) : t.length ≤ 28 * 4 ^ d := by
  induction h with
  | num d n h =>
    have := dgs_len 19 n (by omega) (by omega)
    have := Nat.one_le_two_pow (n := 0)
    have h4 : 1 ≤ 4 ^ d := Nat.one_le_pow _ _ (by omega)
    omega
  | var d s h =>
    have := ident_len h
    have h4 : 1 ≤ 4 ^ d := Nat.one_le_pow _ _ (by omega)
    omega
  | arg d =>
    have h4 : 1 ≤ 4 ^ d := Nat.one_le_pow _ _ (by omega)
    simp; omega
  | inn d s h =>
    have := ident_len h
    have h4 : 1 ≤ 4 ^ d := Nat.one_le_pow _ _ (by omega)
    simp; omega
  | un d k k1 f t h h1 ih =>
    have h4 : 1 ≤ 4 ^ d := Nat.one_le_pow _ _ (by omega)
    have := wrap_len (lev k1) 6 t
    have := op_len k
    rw [List.length_append, Nat.pow_succ]
    omega
  | bin d k k1 k2 f1 f2 t1 t2 h h1 h2 ih1 ih2 =>
    have h4 : 1 ≤ 4 ^ d := Nat.one_le_pow _ _ (by omega)
    have := wrap_len (lev k1) (leftA k) t1
    have := wrap_len (lev k2) (lev k + 1) t2
    have := op_len k
    simp only [List.length_append, List.length_cons, List.length_nil, Nat.pow_succ]
    omega
theorem ExT.five {d : Nat} {k : Int} {f : List D} {t : Bytes} (h : ExT d k f t) : ∃ n s l, f = [.int k, .int n, .str s, .row l, .int 0] := by
  cases h <;> exact ⟨_, _, _, rfl⟩
theorem Ex5.open {w : World} {lo : Nat → Prop} {v : Value} {k n : Int} {s : Bytes} {l : List (List D)} (h : Ex5 w lo v [.int k, .int n, .str s, .row l, .int 0]) :
    ∃ u, v = .agg #[.int .i64 k, .int .i64 n, .string (Gen.mk s), u, .int .i64 0] ∧ Reads w lo u (.row l) := by
  obtain ⟨d0, d1, d2, d3, d4, u0, u1, u2, u3, u4, h1, h2, r0, r1, r2, r3, r4⟩ := h.out
  simp only [List.cons.injEq, and_true] at h1
  obtain ⟨rfl, rfl, rfl, rfl, rfl⟩ := h1
  refine ⟨u3, ?_, r3⟩
  rw [h2, r0.toInt, r1.toInt, r2.toStr, r4.toInt]
theorem Ex5.mk' {w : World} {lo : Nat → Prop} {u : Value} {k n : Int} {s : Bytes} {l : List (List D)} (h : Reads w lo u (.row l)) : Ex5 w lo (.agg #[.int .i64 k, .int .i64 n, .string (Gen.mk s), u, .int .i64 0]) [.int k, .int n, .str s, .row l, .int 0] :=
  ⟨_, _, _, _, _, _, _, _, _, _, rfl, rfl, .int k, .int n, .str s, h, .int 0⟩
/-- A row's k-th record is an expression. -/
theorem Reads.ex {w : World} {lo : Nat → Prop} {a : Option Addr} {c : Nat} {l : List (List D)} {n : Nat} (h : Reads w lo (.slice a n c) (.row l)) (i : Nat) {k m : Int} {s : Bytes} {q : List (List D)} (hi : l[i]? = some [.int k, .int m, .str s, .row q, .int 0]) :
    ∃ g off a3 c3, a = some ⟨g, off, none⟩ ∧ w.cell? ⟨g, off + i * 5, none⟩ = some (.int .i64 k) ∧ w.cell? ⟨g, off + i * 5 + 1, none⟩ = some (.int .i64 m) ∧ w.cell? ⟨g, off + i * 5 + 2, none⟩ = some (.string (mk s)) ∧
      w.cell? ⟨g, off + i * 5 + 3, none⟩ = some (.slice a3 q.length c3) ∧ w.cell? ⟨g, off + i * 5 + 4, none⟩ = some (.int .i64 0) ∧ Reads w lo (.slice a3 q.length c3) (.row q) := by
  obtain ⟨a', c', hv, _, _, hrec⟩ := h.rec5
  obtain ⟨g, off, u0, u1, u2, u3, u4, ha, ⟨x0, x1, x2, x3, x4⟩, r0, r1, r2, r3, r4⟩ := hrec i _ _ _ _ _ hi
  injection hv with e1 e2 e3
  rw [r0.toInt] at x0
  rw [r1.toInt] at x1
  rw [r2.toStr] at x2
  rw [r4.toInt] at x4
  obtain ⟨a3, c3, hu, _⟩ := r3.rec5
  subst hu
  exact ⟨g, off, a3, c3, e1.trans ha, x0, x1, x2, x3, x4, r3⟩
end Go.Proofs.YtdibkgjldmepcaaDoor.Gen
