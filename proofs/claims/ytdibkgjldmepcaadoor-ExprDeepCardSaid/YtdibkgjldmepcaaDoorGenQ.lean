/- Every expression of the generator's make is printed as its text. -/
import Derived.Test.YtdibkgjldmepcaaDoorGenP
namespace Go.Proofs.YtdibkgjldmepcaaDoor.Gen
open Go.RowKit Mem Lex
set_option linter.unusedVariables false

theorem prints {d : Nat} {k : Int} {f : List D} {t : Bytes} (h : ExT d k f t) : d ≤ 10 → ∀ (w : World) (lo : Nat → Prop) (v : Value), Ex5 w lo v f → Prints w v t := by
  induction h with
  | num d n h =>
    intro _ w lo v hv
    obtain ⟨u, rfl, hr⟩ := hv.open
    obtain ⟨a, c, rfl⟩ := hr.toNil
    exact prints_num n h w a 0 c
  | var d s h =>
    intro _ w lo v hv
    obtain ⟨u, rfl, hr⟩ := hv.open
    obtain ⟨a, c, rfl⟩ := hr.toNil
    exact prints_var s w a 0 c
  | arg d =>
    intro _ w lo v hv
    obtain ⟨u, rfl, hr⟩ := hv.open
    obtain ⟨a, c, rfl⟩ := hr.toNil
    exact prints_arg w a 0 c
  | inn d s h =>
    intro _ w lo v hv
    obtain ⟨u, rfl, hr⟩ := hv.open
    obtain ⟨a, c, rfl⟩ := hr.toNil
    exact prints_in s (ident_len h) w a 0 c
  | un d k k1 f t h h1 ih =>
    intro hd w lo v hv
    obtain ⟨n1, s1, l1, rfl⟩ := h1.five
    have hk1 := h1.kind
    have hl := h1.len
    have h10 : 4 ^ d ≤ 4 ^ 10 := Nat.pow_le_pow_right (by omega) (by omega)
    obtain ⟨u, rfl, hr⟩ := hv.open
    obtain ⟨a, c, rfl, hc, _, _⟩ := hr.rec5
    obtain ⟨g, off, a3, c3, rfl, x0, x1, x2, x3, x4, hr3⟩ := Reads.ex hr 0 rfl
    obtain ⟨kn, rfl⟩ : ∃ kn : Nat, k = kn := ⟨k.toNat, by omega⟩
    obtain ⟨kn1, rfl⟩ : ∃ kn : Nat, k1 = kn := ⟨k1.toNat, by omega⟩
    simp only [Nat.zero_mul, Nat.add_zero] at x0 x1 x2 x3 x4
    exact prints_un kn kn1 (by omega) (by omega) t (by omega) w g off c n1 _ a3 _ c3 0 hc x0 x1 x2 x3 x4 (ih (by omega) w lo _ (Ex5.mk' hr3))
  | bin d k k1 k2 f1 f2 t1 t2 h h1 h2 ih1 ih2 =>
    intro hd w lo v hv
    obtain ⟨n1, s1, l1, rfl⟩ := h1.five
    obtain ⟨n2, s2, l2, rfl⟩ := h2.five
    have hk1 := h1.kind
    have hk2 := h2.kind
    have hl1 := h1.len
    have hl2 := h2.len
    have h10 : 4 ^ d ≤ 4 ^ 10 := Nat.pow_le_pow_right (by omega) (by omega)
    obtain ⟨u, rfl, hr⟩ := hv.open
    obtain ⟨a, c, rfl, hc, _, _⟩ := hr.rec5
    obtain ⟨g, off, a3, c3, rfl, x0, x1, x2, x3, x4, hr3⟩ := Reads.ex hr 0 rfl
    obtain ⟨g', off', a4, c4, hg, y0, y1, y2, y3, y4, hr4⟩ := Reads.ex hr 1 rfl
    obtain ⟨rfl, rfl⟩ : g = g' ∧ off = off' := by simpa using hg
    obtain ⟨kn, rfl⟩ : ∃ kn : Nat, k = kn := ⟨k.toNat, by omega⟩
    obtain ⟨kn1, rfl⟩ : ∃ kn : Nat, k1 = kn := ⟨k1.toNat, by omega⟩
    obtain ⟨kn2, rfl⟩ : ∃ kn : Nat, k2 = kn := ⟨k2.toNat, by omega⟩
    simp only [Nat.zero_mul, Nat.add_zero] at x0 x1 x2 x3 x4
    simp only [Nat.one_mul, Nat.add_assoc, Nat.reduceAdd] at y0 y1 y2 y3 y4
    exact prints_bin kn kn1 kn2 (by omega) (by omega) (by omega) t1 t2 (by omega) (by omega) w g off c n1 _ a3 _ c3 0 n2 _ a4 _ c4 0 hc x0 x1 x2 x3 x4 y0 y1 y2 y3 y4
      (ih1 (by omega) w lo _ (Ex5.mk' hr3)) (ih2 (by omega) w lo _ (Ex5.mk' hr4))
end Go.Proofs.YtdibkgjldmepcaaDoor.Gen
