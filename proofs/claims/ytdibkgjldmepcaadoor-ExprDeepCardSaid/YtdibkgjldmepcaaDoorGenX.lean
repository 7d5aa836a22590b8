/- The generator of expressions. -/
import Derived.Test.YtdibkgjldmepcaaDoorGenN
namespace Go.Proofs.YtdibkgjldmepcaaDoor.Gen
open Go.RowKit Mem Lex
set_option linter.unusedVariables false
set_option linter.unusedSimpArgs false

/-- The call's own two blocks beside the row of numbers: the names boxed, the result's cell. -/
structure XSt (W0 w : World) (R : Nat) (P : Nat → Prop) (v0 v1 v2 v3 : Value) (l0 l3 : List Bytes) : Prop where
  src : Src w R
  box : At w W0.heap.size 36 #[v0, v1, v2, v3]
  res : At w (W0.heap.size + 1) 24 #[.int .i64 0, .int .i64 0, .string ⟨#[]⟩, .slice none 0 0, .int .i64 0]
  foot : Foot (fun k => k = R) W0 w
  n0 : Names w P v0 l0
  n3 : Names w P v3 l3
  notR : ¬ P R
  lt : R < W0.heap.size
section
variable {W0 w w' : World} {R : Nat} {P : Nat → Prop} {v0 v1 v2 v3 : Value} {l0 l3 : List Bytes}
theorem XSt.step (h : XSt W0 w R P v0 v1 v2 v3 l0 l3) (hs : Src w' R) (hf : Foot (fun k => k = R) w w') : XSt W0 w' R P v0 v1 v2 v3 l0 l3 :=
  ⟨hs, h.box.keep hf (fun e => by have := h.lt; omega), h.res.keep hf (fun e => by have := h.lt; omega), h.foot.trans hf fun _ _ h => h, h.n0.keep hf fun k hk hp => h.notR (hk ▸ hp), h.n3.keep hf fun k hk hp => h.notR (hk ▸ hp), h.notR, h.lt⟩
theorem XSt.hstep (h : Hid (XSt W0 w R P v0 v1 v2 v3 l0 l3)) (hs : Src w' R) (hf : Foot (fun k => k = R) w w') : Hid (XSt W0 w' R P v0 v1 v2 v3 l0 l3) := Lib.hid (h.out.step hs hf)
theorem XSt.cells (h : XSt W0 w R P v0 v1 v2 v3 l0 l3) : w.cell? ⟨W0.heap.size, 0, none⟩ = some v0 ∧ w.cell? ⟨W0.heap.size, 1, none⟩ = some v1 ∧ w.cell? ⟨W0.heap.size, 2, none⟩ = some v2 ∧ w.cell? ⟨W0.heap.size, 3, none⟩ = some v3 :=
  ⟨h.box.cell 0, h.box.cell 1, h.box.cell 2, h.box.cell 3⟩
end
/-- What lies at an address. -/
def cellAt (w : World) (a : Addr) : Value := (w.cell? a).getD undef
/-- The same, the result's cell of any content. -/
structure XSu (W0 w : World) (R : Nat) (v0 v1 v2 v3 : Value) : Prop where
  src : Src w R
  box : At w W0.heap.size 36 #[v0, v1, v2, v3]
  res : ∃ old : Array Value, old.size = 5 ∧ At w (W0.heap.size + 1) 24 old
  foot : Foot (fun k => k = R) W0 w
  lt : R < W0.heap.size
section
variable {W0 w w' : World} {R : Nat} {P : Nat → Prop} {v0 v1 v2 v3 : Value} {l0 l3 : List Bytes}
theorem XSt.su (h : XSt W0 w R P v0 v1 v2 v3 l0 l3) : XSu W0 w R v0 v1 v2 v3 := ⟨h.src, h.box, ⟨_, rfl, h.res⟩, h.foot, h.lt⟩
theorem XSu.hstep (h : Hid (XSu W0 w R v0 v1 v2 v3)) (hs : Src w' R) (hf : Foot (fun k => k = R) w w') : Hid (XSu W0 w' R v0 v1 v2 v3) := by
  obtain ⟨old, h1, h2⟩ := h.out.res
  have := h.out.lt
  exact Lib.hid ⟨hs, h.out.box.keep hf (fun e => by omega), ⟨old, h1, h2.keep hf (fun e => by omega)⟩, h.out.foot.trans hf fun _ _ h => h, this⟩
theorem XSu.halloc (h : Hid (XSu W0 w R v0 v1 v2 v3)) (o : Obj) : Hid (XSu W0 (w.alloc o) R v0 v1 v2 v3) :=
  XSu.hstep h (h.out.src.still ((Foot.refl (fun _ => False) w).alloc o)) ((Foot.refl _ w).alloc o)
theorem XSu.hrow (h : Hid (XSu W0 w R v0 v1 v2 v3)) (cs : Array Value) (hc : cs.size = 5) : Hid (XSu W0 (w.setRow (W0.heap.size + 1) cs) R v0 v1 v2 v3) := by
  have hF : Foot (fun k => k = W0.heap.size + 1) w (w.setRow (W0.heap.size + 1) cs) := (Foot.refl (fun k => k = W0.heap.size + 1) w).setRow (fun _ => rfl) cs
  obtain ⟨old, h1, h2⟩ := h.out.res
  have := h.out.lt
  exact Lib.hid ⟨h.out.src.keep hF fun k hk => by omega, h.out.box.keep hF (fun e => by omega), ⟨cs, hc, setRow_heap w _ old cs _ _ h2⟩, h.out.foot.setRow (fun h => absurd h (by omega)) cs, this⟩
theorem XSu.resAt (h : Hid (XSu W0 w R v0 v1 v2 v3)) : At w (W0.heap.size + 1) 24 h.out.res.choose := h.out.res.choose_spec.2
theorem XSu.resSize (h : Hid (XSu W0 w R v0 v1 v2 v3)) : h.out.res.choose.size = 5 := h.out.res.choose_spec.1
theorem XSu.oldCell (h : Hid (XSu W0 w R v0 v1 v2 v3)) (j : Nat) (hj : j < 5) : w.cell? ⟨W0.heap.size + 1, j, none⟩ = some (cellAt w ⟨W0.heap.size + 1, j, none⟩) := by
  have h1 := XSu.resSize h
  have h2 : w.cell? ⟨W0.heap.size + 1, j, none⟩ = h.out.res.choose[j]? := (XSu.resAt h).cell j
  rw [Array.getElem?_eq_getElem (by omega)] at h2
  unfold cellAt
  rw [h2]; rfl
theorem XSu.hset (h : Hid (XSu W0 w R v0 v1 v2 v3)) (i : Nat) (u : Value) : Hid (XSu W0 (w.setCell ⟨W0.heap.size + 1, i, none⟩ u) R v0 v1 v2 v3) := by
  have hF : Foot (fun k => k = W0.heap.size + 1) w (w.setCell ⟨W0.heap.size + 1, i, none⟩ u) := (Foot.refl (fun k => k = W0.heap.size + 1) w).setCell (p := ⟨W0.heap.size + 1, i, none⟩) (fun _ => rfl) u
  obtain ⟨old, h1, h2⟩ := h.out.res
  have := h.out.lt
  exact Lib.hid ⟨h.out.src.keep hF fun k hk => by omega, h.out.box.keep hF (fun e => by omega), ⟨_, by rw [Array.size_setIfInBounds]; exact h1, h2.set i u⟩, h.out.foot.setCell (p := ⟨W0.heap.size + 1, i, none⟩) (fun h => absurd h (by simp only; omega)) u, this⟩
theorem XSu.hset5 (h : Hid (XSu W0 w R v0 v1 v2 v3)) (u0 u1 u2 u3 u4 : Value) : Hid (XSu W0 (((((w.setCell ⟨W0.heap.size + 1, 0, none⟩ u0).setCell ⟨W0.heap.size + 1, 1, none⟩ u1).setCell ⟨W0.heap.size + 1, 2, none⟩ u2).setCell ⟨W0.heap.size + 1, 3, none⟩ u3).setCell ⟨W0.heap.size + 1, 4, none⟩ u4) R v0 v1 v2 v3) :=
  XSu.hset (XSu.hset (XSu.hset (XSu.hset (XSu.hset h 0 u0) 1 u1) 2 u2) 3 u3) 4 u4
theorem XSu.cells (h : XSu W0 w R v0 v1 v2 v3) : w.cell? ⟨W0.heap.size, 0, none⟩ = some v0 ∧ w.cell? ⟨W0.heap.size, 1, none⟩ = some v1 ∧ w.cell? ⟨W0.heap.size, 2, none⟩ = some v2 ∧ w.cell? ⟨W0.heap.size, 3, none⟩ = some v3 :=
  ⟨h.box.cell 0, h.box.cell 1, h.box.cell 2, h.box.cell 3⟩
end
/-- A block known whole reads as records. -/
theorem Reads.ofAt {w : World} {P : Nat → Prop} {g : Nat} {t : TypeId} {cells : Array Value} (sz : Nat) (l : List (List D)) (c : Nat) (hA : At w g t cells) (hP : P g) (hsz : ∀ x ∈ l, x.length = sz) (hc : l.length ≤ c ∧ c ≤ maxLen)
    (hr : ∀ k f d, (l[k]?).bind (·[f]?) = some d → ∃ u, cells[k * sz + f]? = some u ∧ Reads w P u d) : Reads w P (.slice (some ⟨g, 0, none⟩) l.length c) (.row l) := by
  refine .row _ c sz l (fun k f => (cells[k * sz + f]?).getD undef) hsz hc (fun x hx => by cases hx; exact ⟨hP, hA.lt⟩) (fun _ => ⟨g, 0, rfl⟩) (fun g' off k f d hg hd => ?_) (fun k f d hd => ?_)
  · simp only [Option.some.injEq, Addr.mk.injEq, and_true] at hg
    obtain ⟨rfl, rfl⟩ := hg
    obtain ⟨u, h1, _⟩ := hr k f d hd
    rw [Nat.zero_add, hA.cell, h1]; rfl
  · obtain ⟨u, h1, h2⟩ := hr k f d hd
    simp only [h1]; exact h2
theorem Reads.one5 {w : World} {P : Nat → Prop} {g : Nat} {t : TypeId} {u0 u1 u2 u3 u4 : Value} {f : List D} (hA : At w g t #[u0, u1, u2, u3, u4]) (hP : P g) (hE : Ex5 w P (.agg #[u0, u1, u2, u3, u4]) f) : Reads w P (.slice (some ⟨g, 0, none⟩) 1 1) (.row [f]) := by
  obtain ⟨d0, d1, d2, d3, d4, x0, x1, x2, x3, x4, rfl, hv, r0, r1, r2, r3, r4⟩ := hE.out
  simp only [Value.agg.injEq, Array.mk.injEq, List.cons.injEq, and_true] at hv
  obtain ⟨rfl, rfl, rfl, rfl, rfl⟩ := hv
  refine Reads.ofAt 5 [[d0, d1, d2, d3, d4]] 1 hA hP (fun x hx => by simp at hx; subst hx; rfl) ⟨Nat.le_refl _, by decide⟩ fun k f d hd => ?_
  match k, f with
  | 0, 0 => cases hd; exact ⟨_, rfl, r0⟩
  | 0, 1 => cases hd; exact ⟨_, rfl, r1⟩
  | 0, 2 => cases hd; exact ⟨_, rfl, r2⟩
  | 0, 3 => cases hd; exact ⟨_, rfl, r3⟩
  | 0, 4 => cases hd; exact ⟨_, rfl, r4⟩
  | 0, (n + 5) => cases hd
  | (n + 1), _ => cases hd
theorem Reads.two5 {w : World} {P : Nat → Prop} {g : Nat} {t : TypeId} {u0 u1 u2 u3 u4 y0 y1 y2 y3 y4 : Value} {f f' : List D} (hA : At w g t #[u0, u1, u2, u3, u4, y0, y1, y2, y3, y4]) (hP : P g) (hE : Ex5 w P (.agg #[u0, u1, u2, u3, u4]) f) (hE' : Ex5 w P (.agg #[y0, y1, y2, y3, y4]) f') : Reads w P (.slice (some ⟨g, 0, none⟩) 2 2) (.row [f, f']) := by
  obtain ⟨d0, d1, d2, d3, d4, x0, x1, x2, x3, x4, rfl, hv, r0, r1, r2, r3, r4⟩ := hE.out
  obtain ⟨e0, e1, e2, e3, e4, z0, z1, z2, z3, z4, rfl, hv', s0, s1, s2, s3, s4⟩ := hE'.out
  simp only [Value.agg.injEq, Array.mk.injEq, List.cons.injEq, and_true] at hv hv'
  obtain ⟨rfl, rfl, rfl, rfl, rfl⟩ := hv
  obtain ⟨rfl, rfl, rfl, rfl, rfl⟩ := hv'
  refine Reads.ofAt 5 [[d0, d1, d2, d3, d4], [e0, e1, e2, e3, e4]] 2 hA hP (fun x hx => by simp at hx; rcases hx with rfl | rfl <;> rfl) ⟨Nat.le_refl _, by decide⟩ fun k f d hd => ?_
  match k, f with
  | 0, 0 => cases hd; exact ⟨_, rfl, r0⟩
  | 0, 1 => cases hd; exact ⟨_, rfl, r1⟩
  | 0, 2 => cases hd; exact ⟨_, rfl, r2⟩
  | 0, 3 => cases hd; exact ⟨_, rfl, r3⟩
  | 0, 4 => cases hd; exact ⟨_, rfl, r4⟩
  | 0, (n + 5) => cases hd
  | 1, 0 => cases hd; exact ⟨_, rfl, s0⟩
  | 1, 1 => cases hd; exact ⟨_, rfl, s1⟩
  | 1, 2 => cases hd; exact ⟨_, rfl, s2⟩
  | 1, 3 => cases hd; exact ⟨_, rfl, s3⟩
  | 1, 4 => cases hd; exact ⟨_, rfl, s4⟩
  | 1, (n + 5) => cases hd
  | (n + 2), _ => cases hd
/-- Beside it an operand that lies in a variable. -/
structure XSw (W0 w : World) (R : Nat) (v0 v1 v2 v3 : Value) (A : Nat) (u0 u1 u2 u3 u4 : Value) (fa : List D) : Prop where
  su : XSu W0 w R v0 v1 v2 v3
  a : At w A 24 #[u0, u1, u2, u3, u4]
  e : Ex5 w (fun b => W0.heap.size + 2 ≤ b) (.agg #[u0, u1, u2, u3, u4]) fa
  hA : W0.heap.size + 2 ≤ A
section
variable {W0 w w' : World} {R A : Nat} {v0 v1 v2 v3 u0 u1 u2 u3 u4 : Value} {fa : List D}
theorem XSw.hstep (h : Hid (XSw W0 w R v0 v1 v2 v3 A u0 u1 u2 u3 u4 fa)) (hs : Src w' R) (hf : Foot (fun k => k = R) w w') : Hid (XSw W0 w' R v0 v1 v2 v3 A u0 u1 u2 u3 u4 fa) := by
  have := h.out.su.lt
  have := h.out.hA
  exact Lib.hid ⟨(XSu.hstep (Lib.hid h.out.su) hs hf).out, h.out.a.keep hf (fun e => by omega), h.out.e.keep hf (fun k hk => by omega), h.out.hA⟩
theorem XSw.halloc (h : Hid (XSw W0 w R v0 v1 v2 v3 A u0 u1 u2 u3 u4 fa)) (o : Obj) : Hid (XSw W0 (w.alloc o) R v0 v1 v2 v3 A u0 u1 u2 u3 u4 fa) :=
  XSw.hstep h (h.out.su.src.still ((Foot.refl (fun _ => False) w).alloc o)) ((Foot.refl _ w).alloc o)
theorem XSw.hrow (h : Hid (XSw W0 w R v0 v1 v2 v3 A u0 u1 u2 u3 u4 fa)) (cs : Array Value) (hc : cs.size = 5) : Hid (XSw W0 (w.setRow (W0.heap.size + 1) cs) R v0 v1 v2 v3 A u0 u1 u2 u3 u4 fa) := by
  have hF : Foot (fun k => k = W0.heap.size + 1) w (w.setRow (W0.heap.size + 1) cs) := (Foot.refl (fun k => k = W0.heap.size + 1) w).setRow (fun _ => rfl) cs
  have := h.out.hA
  exact Lib.hid ⟨(XSu.hrow (Lib.hid h.out.su) cs hc).out, h.out.a.keep hF (fun e => by omega), h.out.e.keep hF (fun k hk => by omega), h.out.hA⟩
end
def numC : Array Value := #[.int .i64 0, .int .i64 1, .int .i64 2, .int .i64 7, .int .i64 1099511627776, .int .i64 9223372036854775807]
theorem idxN (W : World) : ∀ (i : Nat), i < 6 → ∃ n : Nat, n ≤ 9223372036854775807 ∧ (Instr.index 68 (.agg numC) (.int .i64 i)).run Tryd.prog W = .ok (.int .i64 n) W := by
  have h := Tryd.underlying68
  intro i hi
  match i, hi with
  | 0, _ => exact ⟨0, by decide, by simp [Instr.index, run_underlying h, asIntOf, go_sem, numC]⟩
  | 1, _ => exact ⟨1, by decide, by simp [Instr.index, run_underlying h, asIntOf, go_sem, numC]⟩
  | 2, _ => exact ⟨2, by decide, by simp [Instr.index, run_underlying h, asIntOf, go_sem, numC]⟩
  | 3, _ => exact ⟨7, by decide, by simp [Instr.index, run_underlying h, asIntOf, go_sem, numC]⟩
  | 4, _ => exact ⟨1099511627776, by decide, by simp [Instr.index, run_underlying h, asIntOf, go_sem, numC]⟩
  | 5, _ => exact ⟨9223372036854775807, by decide, by simp [Instr.index, run_underlying h, asIntOf, go_sem, numC]⟩
  | (n + 6), h => exact absurd h (by omega)

theorem Reads.nil {w : World} {P : Nat → Prop} : Reads w P (.slice none 0 0) (.row []) :=
  .row none 0 0 [] (fun _ _ => undef) (fun _ h => by cases h) ⟨Nat.le_refl _, Nat.zero_le _⟩ (fun _ h => by cases h) (fun h => by cases h) (fun _ _ _ _ _ h _ => by cases h) (fun k f d h => by simp at h)
/-- What the generator of expressions answers. -/
def XAns (w : World) (R dn : Nat) (e : Ending) (w' : World) : Prop :=
  ∃ (v : Value) (k : Int) (f : List D) (t : Bytes), e = .returned v ∧ ExT dn k f t ∧ Ex5 w' (fun b => w.heap.size ≤ b) v f ∧ Src w' R ∧ Foot (fun b => b = R) w w'
theorem foot_res {W0 w : World} {R : Nat} {u0 u1 u2 u3 u4 : Value} (h : Foot (fun k => k = R) W0 w) :
    Foot (fun k => k = R) W0 (((((w.setCell ⟨W0.heap.size + 1, 0, none⟩ u0).setCell ⟨W0.heap.size + 1, 1, none⟩ u1).setCell ⟨W0.heap.size + 1, 2, none⟩ u2).setCell ⟨W0.heap.size + 1, 3, none⟩ u3).setCell ⟨W0.heap.size + 1, 4, none⟩ u4) :=
  ((((h.setCell (p := ⟨W0.heap.size + 1, 0, none⟩) (fun h => absurd h (by simp only; omega)) _).setCell (p := ⟨W0.heap.size + 1, 1, none⟩) (fun h => absurd h (by simp only; omega)) _).setCell (p := ⟨W0.heap.size + 1, 2, none⟩) (fun h => absurd h (by simp only; omega)) _).setCell (p := ⟨W0.heap.size + 1, 3, none⟩) (fun h => absurd h (by simp only; omega)) _).setCell (p := ⟨W0.heap.size + 1, 4, none⟩) (fun h => absurd h (by simp only; omega)) _
theorem src_res {W0 w : World} {R : Nat} {u0 u1 u2 u3 u4 : Value} (h : Src w R) (hlt : R < W0.heap.size) :
    Src (((((w.setCell ⟨W0.heap.size + 1, 0, none⟩ u0).setCell ⟨W0.heap.size + 1, 1, none⟩ u1).setCell ⟨W0.heap.size + 1, 2, none⟩ u2).setCell ⟨W0.heap.size + 1, 3, none⟩ u3).setCell ⟨W0.heap.size + 1, 4, none⟩ u4) R := by
  have h0 : Foot (fun k => k = W0.heap.size + 1) w (w.setCell ⟨W0.heap.size + 1, 0, none⟩ u0) := (Foot.refl (fun k => k = W0.heap.size + 1) w).setCell (p := ⟨W0.heap.size + 1, 0, none⟩) (fun _ => rfl) _
  have h1 := h0.setCell (p := ⟨W0.heap.size + 1, 1, none⟩) (fun _ => rfl) u1
  have h2 := h1.setCell (p := ⟨W0.heap.size + 1, 2, none⟩) (fun _ => rfl) u2
  have h3 := h2.setCell (p := ⟨W0.heap.size + 1, 3, none⟩) (fun _ => rfl) u3
  have h4 := h3.setCell (p := ⟨W0.heap.size + 1, 4, none⟩) (fun _ => rfl) u4
  exact h.keep h4 fun k hk => by omega

set_option maxHeartbeats 2000000 in
set_option maxRecDepth 100000 in
theorem expr_leaf (dn R : Nat) (hd : dn ≤ 10) (P : Nat → Prop) (v0 v1 v2 v3 : Value) (l0 l1 l2 l3 : List Bytes) (w : World) (hs : Src w R) (hP : ¬ P R) (h0 : Names w P v0 l0) (h1 : Names w P v1 l1) (h2 : Names w P v2 l2) (h3 : Names w P v3 l3)
    (ih : ∀ m, m + 1 = dn → ∀ W, Src W R → Names W P v0 l0 → Names W P v1 l1 → Names W P v2 l2 → Names W P v3 l3 → Calls Tryd.prog 17 #[.pointer (some ⟨R, 0, none⟩), .agg #[v0, v1, v2, v3], .int .i64 m] W (XAns W R m)) :
    Calls Tryd.prog 17 #[.pointer (some ⟨R, 0, none⟩), .agg #[v0, v1, v2, v3], .int .i64 dn] w (XAns w R dn) := by
  have hlt := hs.lt
  obtain ⟨a0, c0, rfl, hc0, hm0, _⟩ := h0.open
  obtain ⟨a1, c1, rfl, hc1, hm1, _⟩ := h1.open
  obtain ⟨a2, c2, rfl, hc2, hm2, _⟩ := h2.open
  obtain ⟨a3, c3, rfl, hc3, hm3, _⟩ := h3.open
  have hf0 := (((Foot.refl (fun _ => False) w).alloc (.cells #[.slice a0 l0.length c0, .slice a1 l1.length c1, .slice a2 l2.length c2, .slice a3 l3.length c3] 36)).alloc (.cells #[.int .i64 0, .int .i64 0, .string ⟨#[]⟩, .slice none 0 0, .int .i64 0] 24))
  obtain ⟨x1, x2, x3, x4⟩ := two (Foot.refl (fun _ => False) ((w.alloc (.cells #[.slice a0 l0.length c0, .slice a1 l1.length c1, .slice a2 l2.length c2, .slice a3 l3.length c3] 36)).alloc (.cells #[.int .i64 0, .int .i64 0, .string ⟨#[]⟩, .slice none 0 0, .int .i64 0] 24)))
  have S0 : Hid (XSt w _ R P _ _ _ _ l0 l3) := Lib.hid ⟨hs.still x3, x1, x2, x3.mono fun _ _ h => h.elim, h0.keep x3 fun _ h => h.elim, h3.keep x3 fun _ h => h.elim, hP, hlt⟩
  have HW := Lib.hid (fun (W : World) (hf : Foot (fun k => k = R) w W) => (⟨h0.keep hf fun k hk hp => hP (hk ▸ hp), h1.keep hf fun k hk hp => hP (hk ▸ hp), h2.keep hf fun k hk hp => hP (hk ▸ hp), h3.keep hf fun k hk hp => hP (hk ▸ hp)⟩ : Names W P _ l0 ∧ Names W P _ l1 ∧ Names W P _ l2 ∧ Names W P _ l3))
  clear x1 x2 x3 x4 hf0 hs h0 h1 h2 h3
  have NX := fun (n : Int) W hW (hn : 1 ≤ n ∧ n ≤ 1000000) => next_c R n W hW hn
  go_enter Tryd.func17, Tryd.ntmps17
  go_wp2_with fail
  generalize (w.alloc (.cells #[.slice a0 l0.length c0, .slice a1 l1.length c1, .slice a2 l2.length c2, .slice a3 l3.length c3] 36)).alloc (.cells #[.int .i64 0, .int .i64 0, .string ⟨#[]⟩, .slice none 0 0, .int .i64 0] 24) = W1 at *
  refine (NX 14 _ S0.out.src (by omega)).mono ?_
  rintro e w1 ⟨x, rfl, hx, hs1, hfx⟩
  have S1 := XSt.hstep S0 hs1 hfx
  clear hs1 hfx S0
  -- THE WAYS
  obtain ⟨b0, b1, b2, b3⟩ := S1.out.cells
  by_cases hdz : dn = 0
  · have hd0 : ((dn : Int) == 0) = true := by rw [hdz]; rfl
    by_cases h5 : 5 < x
    · have hm := Int.tmod_eq_emod_of_nonneg (b := 6) hx.1
      have hw : IntKind.i64.wrap (x.tmod 6) = x.tmod 6 := by rw [hm, IntKind.wrap_i64]; omega
      have hy : 0 ≤ x.tmod 6 ∧ x.tmod 6 < 6 := by rw [hm]; omega
      generalize hye : x.tmod 6 = y at *
      clear hm hdz
      by_cases g2 : y < 2
      · have y0 : y < 2 := g2
        go_wp2_with fail
        refine (NX 6 _ S1.out.src (by omega)).mono ?_
        rintro e w2 ⟨x6, rfl, hx6, hs2, hfx⟩
        have S2 := XSt.hstep S1 hs2 hfx
        obtain ⟨i, rfl⟩ : ∃ i : Nat, x6 = i := ⟨x6.toNat, by omega⟩
        obtain ⟨n, hn, hrun⟩ := idxN w2 i (by omega)
        have HI := Lib.hid hrun
        clear hs2 hfx S1 hrun
        obtain ⟨r0, r1, r2, r3, r4⟩ := cells5 S2.out.res
        obtain ⟨z0, z1, z2, z3, z4⟩ := free5 S2.out.res
        have hz := S2.out.res.lt
        go_wp2_with (with_reducible refine wpList_index rfl (.tmp 22) (.tmp 24) 68 rfl numC (.int .i64 i) (.int .i64 n) rfl rfl HI.out ?_)
        refine bodyPost_ret (v := .agg #[.int .i64 1, .int .i64 n, .string ⟨#[]⟩, .slice none 0 0, .int .i64 0]) (by simp [results, Tryd.results17, go_sem, *]) rfl ?_
        exact ⟨_, 1, _, _, rfl, ExT.num dn n hn, Ex5.mk' Reads.nil, src_res S2.out.src hlt, foot_res S2.out.foot⟩
      · by_cases g3 : y = 2
        · by_cases hpos : 0 < l0.length
          · have y1 : (y == 2) = true := by rw [g3]; rfl
            have hposI : (0 : Int) < l0.length := by omega
            clear g3
            go_wp2_with fail
            refine (pick_c R P _ l0 ⟨#[]⟩ _ S1.out.src S1.out.n0 hP (by intro h; rw [h] at hpos; simp at hpos)).mono ?_
            rintro e w2 ⟨s, hsm, rfl, hs2, hfx⟩
            have S2 := XSt.hstep S1 hs2 hfx
            have HS := Lib.hid (S1.out.n0.ident s hsm)
            clear hs2 hfx S1 hsm
            obtain ⟨r0, r1, r2, r3, r4⟩ := cells5 S2.out.res
            obtain ⟨z0, z1, z2, z3, z4⟩ := free5 S2.out.res
            have hz := S2.out.res.lt
            go_wp2_with fail
            refine bodyPost_ret (v := .agg #[.int .i64 2, .int .i64 0, .string (mk s), .slice none 0 0, .int .i64 0]) (by simp [results, Tryd.results17, go_sem, *]) rfl ?_
            exact ⟨_, 2, _, _, rfl, ExT.var dn s HS.out, Ex5.mk' Reads.nil, src_res S2.out.src hlt, foot_res S2.out.foot⟩
          · have y1 : (y == 2) = true := by rw [g3]; rfl
            have y3 : (y == 3) = false := by rw [g3]; rfl
            have y4 : y < 6 := by omega
            have hposI : ¬ (0 : Int) < l0.length := by omega
            obtain ⟨r0, r1, r2, r3, r4⟩ := cells5 S1.out.res
            obtain ⟨z0, z1, z2, z3, z4⟩ := free5 S1.out.res
            have hz := S1.out.res.lt
            go_wp2_with fail
            refine bodyPost_ret (v := .agg #[.int .i64 3, .int .i64 0, .string ⟨#[]⟩, .slice none 0 0, .int .i64 0]) (by simp [results, Tryd.results17, go_sem, *]) rfl ?_
            exact ⟨_, 3, _, _, rfl, ExT.arg dn, Ex5.mk' Reads.nil, src_res S1.out.src hlt, foot_res S1.out.foot⟩
        · by_cases g4 : y = 3
          · by_cases hpos : 0 < l3.length
            · have y1 : (y == 2) = false := by rw [g4]; rfl
              have y3 : (y == 3) = true := by rw [g4]; rfl
              have hposI : (0 : Int) < l3.length := by omega
              clear g4
              go_wp2_with fail
              refine (pick_c R P _ l3 ⟨#[]⟩ _ S1.out.src S1.out.n3 hP (by intro h; rw [h] at hpos; simp at hpos)).mono ?_
              rintro e w2 ⟨s, hsm, rfl, hs2, hfx⟩
              have S2 := XSt.hstep S1 hs2 hfx
              have HS := Lib.hid (S1.out.n3.ident s hsm)
              clear hs2 hfx S1 hsm
              obtain ⟨r0, r1, r2, r3, r4⟩ := cells5 S2.out.res
              obtain ⟨z0, z1, z2, z3, z4⟩ := free5 S2.out.res
              have hz := S2.out.res.lt
              go_wp2_with fail
              refine bodyPost_ret (v := .agg #[.int .i64 4, .int .i64 0, .string (mk s), .slice none 0 0, .int .i64 0]) (by simp [results, Tryd.results17, go_sem, *]) rfl ?_
              exact ⟨_, 4, _, _, rfl, ExT.inn dn s HS.out, Ex5.mk' Reads.nil, src_res S2.out.src hlt, foot_res S2.out.foot⟩
            · have y1 : (y == 2) = false := by rw [g4]; rfl
              have y3 : (y == 3) = true := by rw [g4]; rfl
              have y4 : y < 6 := by omega
              have hposI : ¬ (0 : Int) < l3.length := by omega
              obtain ⟨r0, r1, r2, r3, r4⟩ := cells5 S1.out.res
              obtain ⟨z0, z1, z2, z3, z4⟩ := free5 S1.out.res
              have hz := S1.out.res.lt
              go_wp2_with fail
              refine bodyPost_ret (v := .agg #[.int .i64 3, .int .i64 0, .string ⟨#[]⟩, .slice none 0 0, .int .i64 0]) (by simp [results, Tryd.results17, go_sem, *]) rfl ?_
              exact ⟨_, 3, _, _, rfl, ExT.arg dn, Ex5.mk' Reads.nil, src_res S1.out.src hlt, foot_res S1.out.foot⟩
          · have y1 : (y == 2) = false := by rw [beq_eq_false_iff_ne]; exact g3
            have y3 : (y == 3) = false := by rw [beq_eq_false_iff_ne]; exact g4
            have y4 : y < 6 := by omega
            obtain ⟨r0, r1, r2, r3, r4⟩ := cells5 S1.out.res
            obtain ⟨z0, z1, z2, z3, z4⟩ := free5 S1.out.res
            have hz := S1.out.res.lt
            go_wp2_with fail
            refine bodyPost_ret (v := .agg #[.int .i64 3, .int .i64 0, .string ⟨#[]⟩, .slice none 0 0, .int .i64 0]) (by simp [results, Tryd.results17, go_sem, *]) rfl ?_
            exact ⟨_, 3, _, _, rfl, ExT.arg dn, Ex5.mk' Reads.nil, src_res S1.out.src hlt, foot_res S1.out.foot⟩
    · have hy : x < 6 := by omega
      clear hdz
      by_cases g2 : x < 2
      · have y0 : x < 2 := g2
        go_wp2_with fail
        refine (NX 6 _ S1.out.src (by omega)).mono ?_
        rintro e w2 ⟨x6, rfl, hx6, hs2, hfx⟩
        have S2 := XSt.hstep S1 hs2 hfx
        obtain ⟨i, rfl⟩ : ∃ i : Nat, x6 = i := ⟨x6.toNat, by omega⟩
        obtain ⟨n, hn, hrun⟩ := idxN w2 i (by omega)
        have HI := Lib.hid hrun
        clear hs2 hfx S1 hrun
        obtain ⟨r0, r1, r2, r3, r4⟩ := cells5 S2.out.res
        obtain ⟨z0, z1, z2, z3, z4⟩ := free5 S2.out.res
        have hz := S2.out.res.lt
        go_wp2_with (with_reducible refine wpList_index rfl (.tmp 22) (.tmp 24) 68 rfl numC (.int .i64 i) (.int .i64 n) rfl rfl HI.out ?_)
        refine bodyPost_ret (v := .agg #[.int .i64 1, .int .i64 n, .string ⟨#[]⟩, .slice none 0 0, .int .i64 0]) (by simp [results, Tryd.results17, go_sem, *]) rfl ?_
        exact ⟨_, 1, _, _, rfl, ExT.num dn n hn, Ex5.mk' Reads.nil, src_res S2.out.src hlt, foot_res S2.out.foot⟩
      · by_cases g3 : x = 2
        · by_cases hpos : 0 < l0.length
          · have y1 : (x == 2) = true := by rw [g3]; rfl
            have hposI : (0 : Int) < l0.length := by omega
            clear g3
            go_wp2_with fail
            refine (pick_c R P _ l0 ⟨#[]⟩ _ S1.out.src S1.out.n0 hP (by intro h; rw [h] at hpos; simp at hpos)).mono ?_
            rintro e w2 ⟨s, hsm, rfl, hs2, hfx⟩
            have S2 := XSt.hstep S1 hs2 hfx
            have HS := Lib.hid (S1.out.n0.ident s hsm)
            clear hs2 hfx S1 hsm
            obtain ⟨r0, r1, r2, r3, r4⟩ := cells5 S2.out.res
            obtain ⟨z0, z1, z2, z3, z4⟩ := free5 S2.out.res
            have hz := S2.out.res.lt
            go_wp2_with fail
            refine bodyPost_ret (v := .agg #[.int .i64 2, .int .i64 0, .string (mk s), .slice none 0 0, .int .i64 0]) (by simp [results, Tryd.results17, go_sem, *]) rfl ?_
            exact ⟨_, 2, _, _, rfl, ExT.var dn s HS.out, Ex5.mk' Reads.nil, src_res S2.out.src hlt, foot_res S2.out.foot⟩
          · have y1 : (x == 2) = true := by rw [g3]; rfl
            have y3 : (x == 3) = false := by rw [g3]; rfl
            have y4 : x < 6 := by omega
            have hposI : ¬ (0 : Int) < l0.length := by omega
            obtain ⟨r0, r1, r2, r3, r4⟩ := cells5 S1.out.res
            obtain ⟨z0, z1, z2, z3, z4⟩ := free5 S1.out.res
            have hz := S1.out.res.lt
            go_wp2_with fail
            refine bodyPost_ret (v := .agg #[.int .i64 3, .int .i64 0, .string ⟨#[]⟩, .slice none 0 0, .int .i64 0]) (by simp [results, Tryd.results17, go_sem, *]) rfl ?_
            exact ⟨_, 3, _, _, rfl, ExT.arg dn, Ex5.mk' Reads.nil, src_res S1.out.src hlt, foot_res S1.out.foot⟩
        · by_cases g4 : x = 3
          · by_cases hpos : 0 < l3.length
            · have y1 : (x == 2) = false := by rw [g4]; rfl
              have y3 : (x == 3) = true := by rw [g4]; rfl
              have hposI : (0 : Int) < l3.length := by omega
              clear g4
              go_wp2_with fail
              refine (pick_c R P _ l3 ⟨#[]⟩ _ S1.out.src S1.out.n3 hP (by intro h; rw [h] at hpos; simp at hpos)).mono ?_
              rintro e w2 ⟨s, hsm, rfl, hs2, hfx⟩
              have S2 := XSt.hstep S1 hs2 hfx
              have HS := Lib.hid (S1.out.n3.ident s hsm)
              clear hs2 hfx S1 hsm
              obtain ⟨r0, r1, r2, r3, r4⟩ := cells5 S2.out.res
              obtain ⟨z0, z1, z2, z3, z4⟩ := free5 S2.out.res
              have hz := S2.out.res.lt
              go_wp2_with fail
              refine bodyPost_ret (v := .agg #[.int .i64 4, .int .i64 0, .string (mk s), .slice none 0 0, .int .i64 0]) (by simp [results, Tryd.results17, go_sem, *]) rfl ?_
              exact ⟨_, 4, _, _, rfl, ExT.inn dn s HS.out, Ex5.mk' Reads.nil, src_res S2.out.src hlt, foot_res S2.out.foot⟩
            · have y1 : (x == 2) = false := by rw [g4]; rfl
              have y3 : (x == 3) = true := by rw [g4]; rfl
              have y4 : x < 6 := by omega
              have hposI : ¬ (0 : Int) < l3.length := by omega
              obtain ⟨r0, r1, r2, r3, r4⟩ := cells5 S1.out.res
              obtain ⟨z0, z1, z2, z3, z4⟩ := free5 S1.out.res
              have hz := S1.out.res.lt
              go_wp2_with fail
              refine bodyPost_ret (v := .agg #[.int .i64 3, .int .i64 0, .string ⟨#[]⟩, .slice none 0 0, .int .i64 0]) (by simp [results, Tryd.results17, go_sem, *]) rfl ?_
              exact ⟨_, 3, _, _, rfl, ExT.arg dn, Ex5.mk' Reads.nil, src_res S1.out.src hlt, foot_res S1.out.foot⟩
          · have y1 : (x == 2) = false := by rw [beq_eq_false_iff_ne]; exact g3
            have y3 : (x == 3) = false := by rw [beq_eq_false_iff_ne]; exact g4
            have y4 : x < 6 := by omega
            obtain ⟨r0, r1, r2, r3, r4⟩ := cells5 S1.out.res
            obtain ⟨z0, z1, z2, z3, z4⟩ := free5 S1.out.res
            have hz := S1.out.res.lt
            go_wp2_with fail
            refine bodyPost_ret (v := .agg #[.int .i64 3, .int .i64 0, .string ⟨#[]⟩, .slice none 0 0, .int .i64 0]) (by simp [results, Tryd.results17, go_sem, *]) rfl ?_
            exact ⟨_, 3, _, _, rfl, ExT.arg dn, Ex5.mk' Reads.nil, src_res S1.out.src hlt, foot_res S1.out.foot⟩
  · have hd0 : ((dn : Int) == 0) = false := by rw [beq_eq_false_iff_ne]; omega
    by_cases hy : x < 6
    · clear hdz
      by_cases g2 : x < 2
      · have y0 : x < 2 := g2
        go_wp2_with fail
        refine (NX 6 _ S1.out.src (by omega)).mono ?_
        rintro e w2 ⟨x6, rfl, hx6, hs2, hfx⟩
        have S2 := XSt.hstep S1 hs2 hfx
        obtain ⟨i, rfl⟩ : ∃ i : Nat, x6 = i := ⟨x6.toNat, by omega⟩
        obtain ⟨n, hn, hrun⟩ := idxN w2 i (by omega)
        have HI := Lib.hid hrun
        clear hs2 hfx S1 hrun
        obtain ⟨r0, r1, r2, r3, r4⟩ := cells5 S2.out.res
        obtain ⟨z0, z1, z2, z3, z4⟩ := free5 S2.out.res
        have hz := S2.out.res.lt
        go_wp2_with (with_reducible refine wpList_index rfl (.tmp 22) (.tmp 24) 68 rfl numC (.int .i64 i) (.int .i64 n) rfl rfl HI.out ?_)
        refine bodyPost_ret (v := .agg #[.int .i64 1, .int .i64 n, .string ⟨#[]⟩, .slice none 0 0, .int .i64 0]) (by simp [results, Tryd.results17, go_sem, *]) rfl ?_
        exact ⟨_, 1, _, _, rfl, ExT.num dn n hn, Ex5.mk' Reads.nil, src_res S2.out.src hlt, foot_res S2.out.foot⟩
      · by_cases g3 : x = 2
        · by_cases hpos : 0 < l0.length
          · have y1 : (x == 2) = true := by rw [g3]; rfl
            have hposI : (0 : Int) < l0.length := by omega
            clear g3
            go_wp2_with fail
            refine (pick_c R P _ l0 ⟨#[]⟩ _ S1.out.src S1.out.n0 hP (by intro h; rw [h] at hpos; simp at hpos)).mono ?_
            rintro e w2 ⟨s, hsm, rfl, hs2, hfx⟩
            have S2 := XSt.hstep S1 hs2 hfx
            have HS := Lib.hid (S1.out.n0.ident s hsm)
            clear hs2 hfx S1 hsm
            obtain ⟨r0, r1, r2, r3, r4⟩ := cells5 S2.out.res
            obtain ⟨z0, z1, z2, z3, z4⟩ := free5 S2.out.res
            have hz := S2.out.res.lt
            go_wp2_with fail
            refine bodyPost_ret (v := .agg #[.int .i64 2, .int .i64 0, .string (mk s), .slice none 0 0, .int .i64 0]) (by simp [results, Tryd.results17, go_sem, *]) rfl ?_
            exact ⟨_, 2, _, _, rfl, ExT.var dn s HS.out, Ex5.mk' Reads.nil, src_res S2.out.src hlt, foot_res S2.out.foot⟩
          · have y1 : (x == 2) = true := by rw [g3]; rfl
            have y3 : (x == 3) = false := by rw [g3]; rfl
            have y4 : x < 6 := by omega
            have hposI : ¬ (0 : Int) < l0.length := by omega
            obtain ⟨r0, r1, r2, r3, r4⟩ := cells5 S1.out.res
            obtain ⟨z0, z1, z2, z3, z4⟩ := free5 S1.out.res
            have hz := S1.out.res.lt
            go_wp2_with fail
            refine bodyPost_ret (v := .agg #[.int .i64 3, .int .i64 0, .string ⟨#[]⟩, .slice none 0 0, .int .i64 0]) (by simp [results, Tryd.results17, go_sem, *]) rfl ?_
            exact ⟨_, 3, _, _, rfl, ExT.arg dn, Ex5.mk' Reads.nil, src_res S1.out.src hlt, foot_res S1.out.foot⟩
        · by_cases g4 : x = 3
          · by_cases hpos : 0 < l3.length
            · have y1 : (x == 2) = false := by rw [g4]; rfl
              have y3 : (x == 3) = true := by rw [g4]; rfl
              have hposI : (0 : Int) < l3.length := by omega
              clear g4
              go_wp2_with fail
              refine (pick_c R P _ l3 ⟨#[]⟩ _ S1.out.src S1.out.n3 hP (by intro h; rw [h] at hpos; simp at hpos)).mono ?_
              rintro e w2 ⟨s, hsm, rfl, hs2, hfx⟩
              have S2 := XSt.hstep S1 hs2 hfx
              have HS := Lib.hid (S1.out.n3.ident s hsm)
              clear hs2 hfx S1 hsm
              obtain ⟨r0, r1, r2, r3, r4⟩ := cells5 S2.out.res
              obtain ⟨z0, z1, z2, z3, z4⟩ := free5 S2.out.res
              have hz := S2.out.res.lt
              go_wp2_with fail
              refine bodyPost_ret (v := .agg #[.int .i64 4, .int .i64 0, .string (mk s), .slice none 0 0, .int .i64 0]) (by simp [results, Tryd.results17, go_sem, *]) rfl ?_
              exact ⟨_, 4, _, _, rfl, ExT.inn dn s HS.out, Ex5.mk' Reads.nil, src_res S2.out.src hlt, foot_res S2.out.foot⟩
            · have y1 : (x == 2) = false := by rw [g4]; rfl
              have y3 : (x == 3) = true := by rw [g4]; rfl
              have y4 : x < 6 := by omega
              have hposI : ¬ (0 : Int) < l3.length := by omega
              obtain ⟨r0, r1, r2, r3, r4⟩ := cells5 S1.out.res
              obtain ⟨z0, z1, z2, z3, z4⟩ := free5 S1.out.res
              have hz := S1.out.res.lt
              go_wp2_with fail
              refine bodyPost_ret (v := .agg #[.int .i64 3, .int .i64 0, .string ⟨#[]⟩, .slice none 0 0, .int .i64 0]) (by simp [results, Tryd.results17, go_sem, *]) rfl ?_
              exact ⟨_, 3, _, _, rfl, ExT.arg dn, Ex5.mk' Reads.nil, src_res S1.out.src hlt, foot_res S1.out.foot⟩
          · have y1 : (x == 2) = false := by rw [beq_eq_false_iff_ne]; exact g3
            have y3 : (x == 3) = false := by rw [beq_eq_false_iff_ne]; exact g4
            have y4 : x < 6 := by omega
            obtain ⟨r0, r1, r2, r3, r4⟩ := cells5 S1.out.res
            obtain ⟨z0, z1, z2, z3, z4⟩ := free5 S1.out.res
            have hz := S1.out.res.lt
            go_wp2_with fail
            refine bodyPost_ret (v := .agg #[.int .i64 3, .int .i64 0, .string ⟨#[]⟩, .slice none 0 0, .int .i64 0]) (by simp [results, Tryd.results17, go_sem, *]) rfl ?_
            exact ⟨_, 3, _, _, rfl, ExT.arg dn, Ex5.mk' Reads.nil, src_res S1.out.src hlt, foot_res S1.out.foot⟩
    · have y0 : ¬ x < 2 := by omega
      have y1 : (x == 2) = false := by rw [beq_eq_false_iff_ne]; omega
      have y3 : (x == 3) = false := by rw [beq_eq_false_iff_ne]; omega
      obtain ⟨m, hm⟩ : ∃ m, m + 1 = dn := ⟨dn - 1, by omega⟩
      have hsub : (dn : Int) - 1 = (m : Int) := by omega
      have hwm : IntKind.i64.wrap (m : Int) = m := by rw [IntKind.wrap_i64]; omega
      have IH := fun W (hW : Hid (XSu w W R (.slice a0 l0.length c0) (.slice a1 l1.length c1) (.slice a2 l2.length c2) (.slice a3 l3.length c3))) => ih m hm W hW.out.src (HW.out W hW.out.foot).1 (HW.out W hW.out.foot).2.1 (HW.out W hW.out.foot).2.2.1 (HW.out W hW.out.foot).2.2.2
      have U1 := Lib.hid S1.out.su
      have HI := Lib.hid IH
      have KEEP : ∀ w', Hid (XSu w w' R (.slice a0 l0.length c0) (.slice a1 l1.length c1) (.slice a2 l2.length c2) (.slice a3 l3.length c3)) → (w'.cell? ⟨w.heap.size, 0, none⟩ = some (.slice a0 l0.length c0) ∧ w'.cell? ⟨w.heap.size, 1, none⟩ = some (.slice a1 l1.length c1) ∧ w'.cell? ⟨w.heap.size, 2, none⟩ = some (.slice a2 l2.length c2) ∧ w'.cell? ⟨w.heap.size, 3, none⟩ = some (.slice a3 l3.length c3) ∧ Hid (XSu w w' R (.slice a0 l0.length c0) (.slice a1 l1.length c1) (.slice a2 l2.length c2) (.slice a3 l3.length c3))) := fun w' h => ⟨h.out.cells.1, h.out.cells.2.1, h.out.cells.2.2.1, h.out.cells.2.2.2, h⟩
      clear IH ih S1 HW
      by_cases h6 : x = 6
      · have y6 : (x == 6) = true := by rw [h6]; rfl
        clear h6
        go_wp2_with fail
        have HR := XSu.hstep U1 (U1.out.src.still ((Foot.refl (fun _ => False) w1).drew)) ((Foot.refl _ w1).drew)
        refine wp_region_held_drew (S := (fun w' => w'.cell? ⟨w.heap.size, 0, none⟩ = some (.slice a0 l0.length c0) ∧ w'.cell? ⟨w.heap.size, 1, none⟩ = some (.slice a1 l1.length c1) ∧ w'.cell? ⟨w.heap.size, 2, none⟩ = some (.slice a2 l2.length c2) ∧ w'.cell? ⟨w.heap.size, 3, none⟩ = some (.slice a3 l3.length c3) ∧ Hid (XSu w w' R (.slice a0 l0.length c0) (.slice a1 l1.length c1) (.slice a2 l2.length c2) (.slice a3 l3.length c3)))) (by kernel_rfl) (KEEP _ HR) (fun hHeld => ?_)
        refine wpAnyH_take (i := 0) (oi := _) (v := ?vn1) rfl (by kernel_rfl) (by kernel_rfl) (by kernel_rfl) (fun _ _ _ h => h) (Or.inl ⟨by rfl, ?hn1⟩) (by assumption) ?rn1
        case hn1 => (intro w hSw; (try dsimp only at hSw); go_simp; (try with_reducible rfl))
        try simp only [Act.put, List.getElem_toArray, List.getElem_cons_zero, List.getElem_cons_succ, List.setIfInBounds_toArray, List.set_cons_zero, List.set_cons_succ]
        refine wpAnyH_take (i := 3) (oi := _) (v := ?vn2) rfl (by kernel_rfl) (by kernel_rfl) (by kernel_rfl) (fun _ _ _ h => h) (Or.inl ⟨by rfl, ?hn2⟩) (by assumption) ?rn2
        case hn2 => (intro w hSw; (try dsimp only at hSw); go_simp; (try with_reducible rfl))
        try simp only [Act.put, List.getElem_toArray, List.getElem_cons_zero, List.getElem_cons_succ, List.setIfInBounds_toArray, List.set_cons_zero, List.set_cons_succ]
        refine wpAnyH_take (i := 4) (oi := _) (v := ?vn3) rfl (by kernel_rfl) (by kernel_rfl) (by kernel_rfl) (fun _ _ _ h => h) (Or.inl ⟨by rfl, ?hn3⟩) (by assumption) ?rn3
        case hn3 => (intro w hSw; (try dsimp only at hSw); go_simp; (try with_reducible rfl))
        try simp only [Act.put, List.getElem_toArray, List.getElem_cons_zero, List.getElem_cons_succ, List.setIfInBounds_toArray, List.set_cons_zero, List.set_cons_succ]
        refine wpAnyH_take (i := 5) (oi := _) (v := ?vn4) rfl (by kernel_rfl) (by kernel_rfl) (by kernel_rfl) (fun _ _ _ h => h) (Or.inl ⟨by rfl, ?hn4⟩) (by assumption) ?rn4
        case hn4 => (intro w hSw; (try dsimp only at hSw); go_simp; (try with_reducible rfl))
        try simp only [Act.put, List.getElem_toArray, List.getElem_cons_zero, List.getElem_cons_succ, List.setIfInBounds_toArray, List.set_cons_zero, List.set_cons_succ]
        refine wpAnyH_take (i := 6) (oi := _) (v := ?vn5) rfl (by kernel_rfl) (by kernel_rfl) (by kernel_rfl) (fun _ _ _ h => h) (Or.inl ⟨by rfl, ?hn5⟩) (by assumption) ?rn5
        case hn5 => (intro w hSw; (try dsimp only at hSw); go_simp; (try with_reducible rfl))
        try simp only [Act.put, List.getElem_toArray, List.getElem_cons_zero, List.getElem_cons_succ, List.setIfInBounds_toArray, List.set_cons_zero, List.set_cons_succ]
        refine wpAnyH_ready (rs := [1]) (by kernel_rfl) (by simp) ?_
        refine AllReadyH.cons (o := _) rfl (fun K hK => ?_) AllReadyH.nil
        go_simp
        (with_reducible refine (NX 2 _ HR.out.src (by omega)).mono ?_); rintro e wx6 ⟨x6, rfl, hx6, hs2, hfx⟩
        have Ua := XSu.hstep HR hs2 hfx
        clear hs2 hfx
        refine hK.out _ _ (KEEP _ (Ua)) (fun hHeld => ?_)
        clear hK K
        try simp only [Act.put, List.getElem_toArray, List.getElem_cons_zero, List.getElem_cons_succ, List.setIfInBounds_toArray, List.set_cons_zero, List.set_cons_succ]
        have hw6 : IntKind.i64.wrap (5 + x6) = 5 + x6 := (by rw [IntKind.wrap_i64]; omega)
        refine wpAnyH_take (i := 2) (oi := _) (v := ?vn6) rfl (by kernel_rfl) (by kernel_rfl) (by kernel_rfl) (fun _ _ _ h => h) (Or.inl ⟨by rfl, ?hn6⟩) (by assumption) ?rn6
        case hn6 => (intro w hSw; (try dsimp only at hSw); go_simp; (try with_reducible rfl))
        try simp only [Act.put, List.getElem_toArray, List.getElem_cons_zero, List.getElem_cons_succ, List.setIfInBounds_toArray, List.set_cons_zero, List.set_cons_succ]
        refine wpAnyH_ready (rs := [7]) (by kernel_rfl) (by simp) ?_
        refine AllReadyH.cons (o := _) rfl (fun K hK => ?_) AllReadyH.nil
        go_simp
        (with_reducible refine (HI.out _ Ua).mono ?_); rintro e web ⟨v, kb, f1, tb, rfl, hE, hX, hs3, hfy⟩
        (obtain ⟨nb, sb, qb, rfl⟩ := hE.five; obtain ⟨u1, rfl, hr1⟩ := hX.open; obtain ⟨a5b, c5b, rfl, hc5⟩ := hr1.rec5; have HEb := Lib.hid hE; have HXb := Lib.hid hX; have HYb := Lib.hid hfy; clear hE hX hr1 hc5 hfy)
        have Ub := XSu.hstep Ua hs3 HYb.out
        clear hs3
        refine hK.out _ _ (KEEP _ (Ub)) (fun hHeld => ?_)
        clear hK K
        try simp only [Act.put, List.getElem_toArray, List.getElem_cons_zero, List.getElem_cons_succ, List.setIfInBounds_toArray, List.set_cons_zero, List.set_cons_succ]
        refine wpAnyH_ready (rs := [8]) (by kernel_rfl) (by simp) ?_
        refine AllReadyH.cons (o := _) rfl (fun K hK => ?_) AllReadyH.nil
        go_simp
        have Uc := XSu.halloc Ub (.cells #[.int .i64 kb, .int .i64 nb, .string (mk sb), .slice a5b qb.length c5b, .int .i64 0] 24)
        refine hK.out _ _ (KEEP _ (Uc)) (fun hHeld => ?_)
        clear hK K
        try simp only [Act.put, List.getElem_toArray, List.getElem_cons_zero, List.getElem_cons_succ, List.setIfInBounds_toArray, List.set_cons_zero, List.set_cons_succ]
        refine wpAnyH_take (i := 9) (oi := _) (v := ?vn7) rfl (by kernel_rfl) (by kernel_rfl) (by kernel_rfl) (fun _ _ _ h => h) (Or.inl ⟨by rfl, ?hn7⟩) (by assumption) ?rn7
        case hn7 => (intro w hSw; (try dsimp only at hSw); go_simp; (try with_reducible rfl))
        try simp only [Act.put, List.getElem_toArray, List.getElem_cons_zero, List.getElem_cons_succ, List.setIfInBounds_toArray, List.set_cons_zero, List.set_cons_succ]
        refine wpAnyH_ready (rs := [10]) (by kernel_rfl) (by simp) ?_
        refine AllReadyH.cons (o := _) rfl (fun K hK => ?_) AllReadyH.nil
        refine step_of_wp rfl ?_
        refine wp_store_row 24 (.tmp 6) (.tmp 71) rfl (w.heap.size + 1) #[.int .i64 (5 + x6), .int .i64 0, .string ⟨#[]⟩, .slice (some ⟨web.heap.size, 0, none⟩) 1 1, .int .i64 0] rfl rfl 24 _ (XSu.resAt Uc) (by kernel_rfl) (XSu.resSize Uc) (by kernel_rfl) ?_
        have Ud := XSu.hrow Uc #[.int .i64 (5 + x6), .int .i64 0, .string ⟨#[]⟩, .slice (some ⟨web.heap.size, 0, none⟩) 1 1, .int .i64 0] rfl
        refine hK.out _ _ (KEEP _ (Ud)) (fun hHeld => ?_)
        clear hK K
        try simp only [Act.put, List.getElem_toArray, List.getElem_cons_zero, List.getElem_cons_succ, List.setIfInBounds_toArray, List.set_cons_zero, List.set_cons_succ]
        refine wpAnyH_done (by kernel_rfl) ?_ _
        have HQ : At _ (w.heap.size + 1) 24 _ := setRow_heap (web.alloc (.cells #[.int .i64 kb, .int .i64 nb, .string (mk sb), .slice a5b qb.length c5b, .int .i64 0] 24)) (w.heap.size + 1) _ #[.int .i64 (5 + x6), .int .i64 0, .string ⟨#[]⟩, .slice (some ⟨web.heap.size, 0, none⟩) 1 1, .int .i64 0] 24 (0, 0) (XSu.resAt Uc)
        have hl1 := (XSu.resAt Ub).lt
        have hl2 := (XSu.resAt Ua).lt
        have hl3 := HYb.out.size
        have HF9 : Foot (fun k => k = w.heap.size + 1) web _ := ((Foot.refl (fun k => k = w.heap.size + 1) web).alloc (.cells #[.int .i64 kb, .int .i64 nb, .string (mk sb), .slice a5b qb.length c5b, .int .i64 0] 24)).setRow (g := w.heap.size + 1) (fun _ => rfl) #[.int .i64 (5 + x6), .int .i64 0, .string ⟨#[]⟩, .slice (some ⟨web.heap.size, 0, none⟩) 1 1, .int .i64 0]
        have HN : At _ web.heap.size 24 #[.int .i64 kb, .int .i64 nb, .string (mk sb), .slice a5b qb.length c5b, .int .i64 0] := (At.new web 24 #[.int .i64 kb, .int .i64 nb, .string (mk sb), .slice a5b qb.length c5b, .int .i64 0]).keep ((Foot.refl (fun k => k = w.heap.size + 1) (web.alloc (.cells #[.int .i64 kb, .int .i64 nb, .string (mk sb), .slice a5b qb.length c5b, .int .i64 0] 24))).setRow (g := w.heap.size + 1) (fun _ => rfl) #[.int .i64 (5 + x6), .int .i64 0, .string ⟨#[]⟩, .slice (some ⟨web.heap.size, 0, none⟩) 1 1, .int .i64 0]) (fun e => by omega)
        generalize (web.alloc (.cells #[.int .i64 kb, .int .i64 nb, .string (mk sb), .slice a5b qb.length c5b, .int .i64 0] 24)).setRow (w.heap.size + 1) #[.int .i64 (5 + x6), .int .i64 0, .string ⟨#[]⟩, .slice (some ⟨web.heap.size, 0, none⟩) 1 1, .int .i64 0] = W9 at *
        have HEX : Ex5 W9 (fun b => w.heap.size ≤ b) (.agg #[.int .i64 kb, .int .i64 nb, .string (mk sb), .slice a5b qb.length c5b, .int .i64 0]) _ := (HXb.out.keep HF9 (fun k hk hb => by omega)).weak (fun k _ hk => by omega)
        have HRD := Lib.hid (Reads.one5 HN (show w.heap.size ≤ web.heap.size by omega) HEX)
        obtain ⟨r0, r1, r2, r3, r4⟩ := cells5 HQ
        clear HF9 HN HEX HQ
        go_wp2_with fail
        refine bodyPost_ret (v := .agg #[.int .i64 (5 + x6), .int .i64 0, .string ⟨#[]⟩, .slice (some ⟨web.heap.size, 0, none⟩) 1 1, .int .i64 0]) (by simp [results, Tryd.results17, go_sem, *]) rfl ?_
        exact ⟨_, 5 + x6, _, _, rfl, hm ▸ ExT.un m (5 + x6) kb _ tb (by omega) HEb.out, Ex5.mk' HRD.out, Ud.out.src, Ud.out.foot⟩
      · have y6 : (x == 6) = false := by rw [beq_eq_false_iff_ne]; exact h6
        clear h6
        go_wp2_with fail
        (with_reducible refine (HI.out _ U1).mono ?_); rintro e wea ⟨v, ka, f1, ta, rfl, hE, hX, hs3, hfy⟩
        (obtain ⟨na, sa, qa, rfl⟩ := hE.five; obtain ⟨u1, rfl, hr1⟩ := hX.open; obtain ⟨a5a, c5a, rfl, hc5⟩ := hr1.rec5; have HEa := Lib.hid hE; have HXa := Lib.hid hX; have HYa := Lib.hid hfy; clear hE hX hr1 hc5 hfy)
        have Ua := XSu.hstep U1 hs3 HYa.out
        have hl1 := (XSu.resAt U1).lt
        have hl3 := HYa.out.size
        have Va : Hid (XSw w (wea.alloc (.cells #[.int .i64 ka, .int .i64 na, .string (mk sa), .slice a5a qa.length c5a, .int .i64 0] 24)) R (.slice a0 l0.length c0) (.slice a1 l1.length c1) (.slice a2 l2.length c2) (.slice a3 l3.length c3) wea.heap.size (.int .i64 ka) (.int .i64 na) (.string (mk sa)) (.slice a5a qa.length c5a) (.int .i64 0) [.int ka, .int na, .str sa, .row qa, .int 0]) := Lib.hid ⟨(XSu.halloc Ua _).out, At.new wea _ _, (HXa.out.keep ((Foot.refl (fun _ => False) wea).alloc _) fun _ h => h.elim).weak (fun k _ hk => by omega), by omega⟩
        clear hs3
        go_wp2_with fail
        generalize wea.alloc (.cells #[.int .i64 ka, .int .i64 na, .string (mk sa), .slice a5a qa.length c5a, .int .i64 0] 24) = W2 at *
        have KEEP2 : ∀ w', Hid (XSw w w' R (.slice a0 l0.length c0) (.slice a1 l1.length c1) (.slice a2 l2.length c2) (.slice a3 l3.length c3) wea.heap.size (.int .i64 ka) (.int .i64 na) (.string (mk sa)) (.slice a5a qa.length c5a) (.int .i64 0) [.int ka, .int na, .str sa, .row qa, .int 0]) → (w'.cell? ⟨w.heap.size, 0, none⟩ = some (.slice a0 l0.length c0) ∧ w'.cell? ⟨w.heap.size, 1, none⟩ = some (.slice a1 l1.length c1) ∧ w'.cell? ⟨w.heap.size, 2, none⟩ = some (.slice a2 l2.length c2) ∧ w'.cell? ⟨w.heap.size, 3, none⟩ = some (.slice a3 l3.length c3) ∧ w'.cell? ⟨wea.heap.size, 0, none⟩ = some (.int .i64 ka) ∧ w'.cell? ⟨wea.heap.size, 1, none⟩ = some (.int .i64 na) ∧ w'.cell? ⟨wea.heap.size, 2, none⟩ = some (.string (mk sa)) ∧ w'.cell? ⟨wea.heap.size, 3, none⟩ = some (.slice a5a qa.length c5a) ∧ w'.cell? ⟨wea.heap.size, 4, none⟩ = some (.int .i64 0) ∧ Hid (XSw w w' R (.slice a0 l0.length c0) (.slice a1 l1.length c1) (.slice a2 l2.length c2) (.slice a3 l3.length c3) wea.heap.size (.int .i64 ka) (.int .i64 na) (.string (mk sa)) (.slice a5a qa.length c5a) (.int .i64 0) [.int ka, .int na, .str sa, .row qa, .int 0])) := fun w' h => ⟨h.out.su.cells.1, h.out.su.cells.2.1, h.out.su.cells.2.2.1, h.out.su.cells.2.2.2, h.out.a.cell 0, h.out.a.cell 1, h.out.a.cell 2, h.out.a.cell 3, h.out.a.cell 4, h⟩
        have HR := XSw.hstep Va (Va.out.su.src.still ((Foot.refl (fun _ => False) W2).drew)) ((Foot.refl _ W2).drew)
        refine wp_region_held_drew (S := (fun w' => w'.cell? ⟨w.heap.size, 0, none⟩ = some (.slice a0 l0.length c0) ∧ w'.cell? ⟨w.heap.size, 1, none⟩ = some (.slice a1 l1.length c1) ∧ w'.cell? ⟨w.heap.size, 2, none⟩ = some (.slice a2 l2.length c2) ∧ w'.cell? ⟨w.heap.size, 3, none⟩ = some (.slice a3 l3.length c3) ∧ w'.cell? ⟨wea.heap.size, 0, none⟩ = some (.int .i64 ka) ∧ w'.cell? ⟨wea.heap.size, 1, none⟩ = some (.int .i64 na) ∧ w'.cell? ⟨wea.heap.size, 2, none⟩ = some (.string (mk sa)) ∧ w'.cell? ⟨wea.heap.size, 3, none⟩ = some (.slice a5a qa.length c5a) ∧ w'.cell? ⟨wea.heap.size, 4, none⟩ = some (.int .i64 0) ∧ Hid (XSw w w' R (.slice a0 l0.length c0) (.slice a1 l1.length c1) (.slice a2 l2.length c2) (.slice a3 l3.length c3) wea.heap.size (.int .i64 ka) (.int .i64 na) (.string (mk sa)) (.slice a5a qa.length c5a) (.int .i64 0) [.int ka, .int na, .str sa, .row qa, .int 0]))) (by kernel_rfl) (KEEP2 _ HR) (fun hHeld => ?_)
        refine wpAnyH_take (i := 0) (oi := _) (v := ?vn8) rfl (by kernel_rfl) (by kernel_rfl) (by kernel_rfl) (fun _ _ _ h => h) (Or.inl ⟨by rfl, ?hn8⟩) (by assumption) ?rn8
        case hn8 => (intro w hSw; (try dsimp only at hSw); go_simp; (try with_reducible rfl))
        try simp only [Act.put, List.getElem_toArray, List.getElem_cons_zero, List.getElem_cons_succ, List.setIfInBounds_toArray, List.set_cons_zero, List.set_cons_succ]
        refine wpAnyH_take (i := 3) (oi := _) (v := ?vn9) rfl (by kernel_rfl) (by kernel_rfl) (by kernel_rfl) (fun _ _ _ h => h) (Or.inl ⟨by rfl, ?hn9⟩) (by assumption) ?rn9
        case hn9 => (intro w hSw; (try dsimp only at hSw); go_simp; (try with_reducible rfl))
        try simp only [Act.put, List.getElem_toArray, List.getElem_cons_zero, List.getElem_cons_succ, List.setIfInBounds_toArray, List.set_cons_zero, List.set_cons_succ]
        refine wpAnyH_take (i := 4) (oi := _) (v := ?vn10) rfl (by kernel_rfl) (by kernel_rfl) (by kernel_rfl) (fun _ _ _ h => h) (Or.inl ⟨by rfl, ?hn10⟩) (by assumption) ?rn10
        case hn10 => (intro w hSw; (try dsimp only at hSw); go_simp; (try with_reducible rfl))
        try simp only [Act.put, List.getElem_toArray, List.getElem_cons_zero, List.getElem_cons_succ, List.setIfInBounds_toArray, List.set_cons_zero, List.set_cons_succ]
        refine wpAnyH_take (i := 5) (oi := _) (v := ?vn11) rfl (by kernel_rfl) (by kernel_rfl) (by kernel_rfl) (fun _ _ _ h => h) (Or.inl ⟨by rfl, ?hn11⟩) (by assumption) ?rn11
        case hn11 => (intro w hSw; (try dsimp only at hSw); go_simp; (try with_reducible rfl))
        try simp only [Act.put, List.getElem_toArray, List.getElem_cons_zero, List.getElem_cons_succ, List.setIfInBounds_toArray, List.set_cons_zero, List.set_cons_succ]
        refine wpAnyH_take (i := 6) (oi := _) (v := ?vn12) rfl (by kernel_rfl) (by kernel_rfl) (by kernel_rfl) (fun _ _ _ h => h) (Or.inl ⟨by rfl, ?hn12⟩) (by assumption) ?rn12
        case hn12 => (intro w hSw; (try dsimp only at hSw); go_simp; (try with_reducible rfl))
        try simp only [Act.put, List.getElem_toArray, List.getElem_cons_zero, List.getElem_cons_succ, List.setIfInBounds_toArray, List.set_cons_zero, List.set_cons_succ]
        refine wpAnyH_take (i := 7) (oi := _) (v := ?vn13) rfl (by kernel_rfl) (by kernel_rfl) (by kernel_rfl) (fun _ _ _ h => h) (Or.inl ⟨by rfl, ?hn13⟩) (by assumption) ?rn13
        case hn13 => (intro w hSw; (try dsimp only at hSw); go_simp; (try with_reducible rfl))
        try simp only [Act.put, List.getElem_toArray, List.getElem_cons_zero, List.getElem_cons_succ, List.setIfInBounds_toArray, List.set_cons_zero, List.set_cons_succ]
        refine wpAnyH_ready (rs := [1]) (by kernel_rfl) (by simp) ?_
        refine AllReadyH.cons (o := _) rfl (fun K hK => ?_) AllReadyH.nil
        go_simp
        (with_reducible refine (NX 13 _ HR.out.su.src (by omega)).mono ?_); rintro e wx ⟨xo, rfl, hxo, hs2, hfx⟩
        have Vb := XSw.hstep HR hs2 hfx
        clear hs2 hfx
        refine hK.out _ _ (KEEP2 _ (Vb)) (fun hHeld => ?_)
        clear hK K
        try simp only [Act.put, List.getElem_toArray, List.getElem_cons_zero, List.getElem_cons_succ, List.setIfInBounds_toArray, List.set_cons_zero, List.set_cons_succ]
        have hw6 : IntKind.i64.wrap (7 + xo) = 7 + xo := (by rw [IntKind.wrap_i64]; omega)
        refine wpAnyH_take (i := 2) (oi := _) (v := ?vn14) rfl (by kernel_rfl) (by kernel_rfl) (by kernel_rfl) (fun _ _ _ h => h) (Or.inl ⟨by rfl, ?hn14⟩) (by assumption) ?rn14
        case hn14 => (intro w hSw; (try dsimp only at hSw); go_simp; (try with_reducible rfl))
        try simp only [Act.put, List.getElem_toArray, List.getElem_cons_zero, List.getElem_cons_succ, List.setIfInBounds_toArray, List.set_cons_zero, List.set_cons_succ]
        refine wpAnyH_ready (rs := [8]) (by kernel_rfl) (by simp) ?_
        refine AllReadyH.cons (o := _) rfl (fun K hK => ?_) AllReadyH.nil
        go_simp
        (with_reducible refine (HI.out _ (Lib.hid Vb.out.su)).mono ?_); rintro e web ⟨v, kb, f1, tb, rfl, hE, hX, hs3, hfy⟩
        (obtain ⟨nb, sb, qb, rfl⟩ := hE.five; obtain ⟨u1, rfl, hr1⟩ := hX.open; obtain ⟨a5b, c5b, rfl, hc5⟩ := hr1.rec5; have HEb := Lib.hid hE; have HXb := Lib.hid hX; have HYb := Lib.hid hfy; clear hE hX hr1 hc5 hfy)
        have Vc := XSw.hstep Vb hs3 HYb.out
        clear hs3
        refine hK.out _ _ (KEEP2 _ (Vc)) (fun hHeld => ?_)
        clear hK K
        try simp only [Act.put, List.getElem_toArray, List.getElem_cons_zero, List.getElem_cons_succ, List.setIfInBounds_toArray, List.set_cons_zero, List.set_cons_succ]
        refine wpAnyH_ready (rs := [9]) (by kernel_rfl) (by simp) ?_
        refine AllReadyH.cons (o := _) rfl (fun K hK => ?_) AllReadyH.nil
        go_simp
        have Vd := XSw.halloc Vc (.cells #[.int .i64 ka, .int .i64 na, .string (mk sa), .slice a5a qa.length c5a, .int .i64 0, .int .i64 kb, .int .i64 nb, .string (mk sb), .slice a5b qb.length c5b, .int .i64 0] 24)
        refine hK.out _ _ (KEEP2 _ (Vd)) (fun hHeld => ?_)
        clear hK K
        try simp only [Act.put, List.getElem_toArray, List.getElem_cons_zero, List.getElem_cons_succ, List.setIfInBounds_toArray, List.set_cons_zero, List.set_cons_succ]
        refine wpAnyH_take (i := 10) (oi := _) (v := ?vn15) rfl (by kernel_rfl) (by kernel_rfl) (by kernel_rfl) (fun _ _ _ h => h) (Or.inl ⟨by rfl, ?hn15⟩) (by assumption) ?rn15
        case hn15 => (intro w hSw; (try dsimp only at hSw); go_simp; (try with_reducible rfl))
        try simp only [Act.put, List.getElem_toArray, List.getElem_cons_zero, List.getElem_cons_succ, List.setIfInBounds_toArray, List.set_cons_zero, List.set_cons_succ]
        refine wpAnyH_ready (rs := [11]) (by kernel_rfl) (by simp) ?_
        refine AllReadyH.cons (o := _) rfl (fun K hK => ?_) AllReadyH.nil
        refine step_of_wp rfl ?_
        refine wp_store_row 24 (.tmp 6) (.tmp 87) rfl (w.heap.size + 1) #[.int .i64 (7 + xo), .int .i64 0, .string ⟨#[]⟩, .slice (some ⟨web.heap.size, 0, none⟩) 2 2, .int .i64 0] rfl rfl 24 _ (XSu.resAt (Lib.hid Vd.out.su)) (by kernel_rfl) (XSu.resSize (Lib.hid Vd.out.su)) (by kernel_rfl) ?_
        have Ve := XSw.hrow Vd #[.int .i64 (7 + xo), .int .i64 0, .string ⟨#[]⟩, .slice (some ⟨web.heap.size, 0, none⟩) 2 2, .int .i64 0] rfl
        refine hK.out _ _ (KEEP2 _ (Ve)) (fun hHeld => ?_)
        clear hK K
        try simp only [Act.put, List.getElem_toArray, List.getElem_cons_zero, List.getElem_cons_succ, List.setIfInBounds_toArray, List.set_cons_zero, List.set_cons_succ]
        refine wpAnyH_done (by kernel_rfl) ?_ _
        have HQ : At _ (w.heap.size + 1) 24 _ := setRow_heap (web.alloc (.cells #[.int .i64 ka, .int .i64 na, .string (mk sa), .slice a5a qa.length c5a, .int .i64 0, .int .i64 kb, .int .i64 nb, .string (mk sb), .slice a5b qb.length c5b, .int .i64 0] 24)) (w.heap.size + 1) _ #[.int .i64 (7 + xo), .int .i64 0, .string ⟨#[]⟩, .slice (some ⟨web.heap.size, 0, none⟩) 2 2, .int .i64 0] 24 (0, 0) (XSu.resAt (Lib.hid Vd.out.su))
        have hl4 := Vb.out.a.lt
        have hl5 := HYb.out.size
        have hl6 := Va.out.hA
        have HF9 : Foot (fun k => k = w.heap.size + 1) web _ := ((Foot.refl (fun k => k = w.heap.size + 1) web).alloc (.cells #[.int .i64 ka, .int .i64 na, .string (mk sa), .slice a5a qa.length c5a, .int .i64 0, .int .i64 kb, .int .i64 nb, .string (mk sb), .slice a5b qb.length c5b, .int .i64 0] 24)).setRow (g := w.heap.size + 1) (fun _ => rfl) #[.int .i64 (7 + xo), .int .i64 0, .string ⟨#[]⟩, .slice (some ⟨web.heap.size, 0, none⟩) 2 2, .int .i64 0]
        have HN : At _ web.heap.size 24 #[.int .i64 ka, .int .i64 na, .string (mk sa), .slice a5a qa.length c5a, .int .i64 0, .int .i64 kb, .int .i64 nb, .string (mk sb), .slice a5b qb.length c5b, .int .i64 0] := (At.new web 24 #[.int .i64 ka, .int .i64 na, .string (mk sa), .slice a5a qa.length c5a, .int .i64 0, .int .i64 kb, .int .i64 nb, .string (mk sb), .slice a5b qb.length c5b, .int .i64 0]).keep ((Foot.refl (fun k => k = w.heap.size + 1) (web.alloc (.cells #[.int .i64 ka, .int .i64 na, .string (mk sa), .slice a5a qa.length c5a, .int .i64 0, .int .i64 kb, .int .i64 nb, .string (mk sb), .slice a5b qb.length c5b, .int .i64 0] 24))).setRow (g := w.heap.size + 1) (fun _ => rfl) #[.int .i64 (7 + xo), .int .i64 0, .string ⟨#[]⟩, .slice (some ⟨web.heap.size, 0, none⟩) 2 2, .int .i64 0]) (fun e => by omega)
        generalize (web.alloc (.cells #[.int .i64 ka, .int .i64 na, .string (mk sa), .slice a5a qa.length c5a, .int .i64 0, .int .i64 kb, .int .i64 nb, .string (mk sb), .slice a5b qb.length c5b, .int .i64 0] 24)).setRow (w.heap.size + 1) #[.int .i64 (7 + xo), .int .i64 0, .string ⟨#[]⟩, .slice (some ⟨web.heap.size, 0, none⟩) 2 2, .int .i64 0] = W9 at *
        have HEX : Ex5 W9 (fun b => w.heap.size ≤ b) (.agg #[.int .i64 kb, .int .i64 nb, .string (mk sb), .slice a5b qb.length c5b, .int .i64 0]) _ := (HXb.out.keep HF9 (fun k hk hb => by omega)).weak (fun k _ hk => by omega)
        have HEA : Ex5 W9 (fun b => w.heap.size ≤ b) (.agg #[.int .i64 ka, .int .i64 na, .string (mk sa), .slice a5a qa.length c5a, .int .i64 0]) _ := Ve.out.e.weak (fun k _ hk => by omega)
        have HRD := Lib.hid (Reads.two5 HN (show w.heap.size ≤ web.heap.size by omega) HEA HEX)
        obtain ⟨r0, r1, r2, r3, r4⟩ := cells5 HQ
        clear HF9 HN HEX HEA HQ
        go_wp2_with fail
        refine bodyPost_ret (v := .agg #[.int .i64 (7 + xo), .int .i64 0, .string ⟨#[]⟩, .slice (some ⟨web.heap.size, 0, none⟩) 2 2, .int .i64 0]) (by simp [results, Tryd.results17, go_sem, *]) rfl ?_
        exact ⟨_, 7 + xo, _, _, rfl, hm ▸ ExT.bin m (7 + xo) ka kb _ _ ta tb (by omega) HEa.out HEb.out, Ex5.mk' HRD.out, Ve.out.su.src, Ve.out.su.foot⟩
theorem expr_c (R : Nat) (P : Nat → Prop) (hP : ¬ P R) (v0 v1 v2 v3 : Value) (l0 l1 l2 l3 : List Bytes) : ∀ (dn : Nat), dn ≤ 10 → ∀ w, Src w R → Names w P v0 l0 → Names w P v1 l1 → Names w P v2 l2 → Names w P v3 l3 →
    Calls Tryd.prog 17 #[.pointer (some ⟨R, 0, none⟩), .agg #[v0, v1, v2, v3], .int .i64 dn] w (XAns w R dn)
  | 0, hd, w, hs, h0, h1, h2, h3 => expr_leaf 0 R hd P v0 v1 v2 v3 l0 l1 l2 l3 w hs hP h0 h1 h2 h3 fun m hm => absurd hm (by omega)
  | n + 1, hd, w, hs, h0, h1, h2, h3 => expr_leaf (n + 1) R hd P v0 v1 v2 v3 l0 l1 l2 l3 w hs hP h0 h1 h2 h3 fun m hm W hW g0 g1 g2 g3 => by
    obtain rfl : m = n := by omega
    exact expr_c R P hP v0 v1 v2 v3 l0 l1 l2 l3 m (by omega) W hW g0 g1 g2 g3
end Go.Proofs.YtdibkgjldmepcaaDoor.Gen
