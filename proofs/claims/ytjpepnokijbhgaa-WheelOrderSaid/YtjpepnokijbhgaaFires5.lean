/- One timer alone (law 5's WheelFires): what a tick and an arming make of it. -/
import Derived.Test.YtjpepnokijbhgaaKnown5
namespace Go.Proofs.Ytjpepnokijbhgaa.Whl
open Go.RowKit Mem MapK Tim MapF
set_option linter.unusedVariables false

/-- The timer {3 1} with r ticks left, or none. -/
def S31 (r : Int) : TRows := if 0 < r then [((3, 1), r)] else []
theorem S31_pos {r : Int} (h : 0 < r) : S31 r = [((3, 1), r)] := if_pos h
theorem S31_none {r : Int} (h : r ≤ 0) : S31 r = [] := if_neg (by omega)
theorem tick31 (r : Int) : tickL (S31 r) = S31 (r - 1) := by
  by_cases h : 0 < r
  · rw [S31_pos h]
    by_cases h1 : r = 1
    · subst h1; decide
    · rw [S31_pos (by omega)]
      simp [tickL, h1]
  · rw [S31_none (by omega), S31_none (by omega)]; rfl
theorem fired31 (r : Int) : firedL (S31 r) = if r = 1 then [(3, 1)] else [] := by
  by_cases h : 0 < r
  · rw [S31_pos h]
    by_cases h1 : r = 1
    · subst h1; decide
    · simp [firedL, h1]
  · rw [S31_none (by omega), if_neg (by omega)]; rfl
theorem arm31 {k : Int} (r : Int) (h1 : 1 ≤ k) (h2 : k ≤ 65536) : armR (3, 1) k = 0 ∧ armS (3, 1) k (S31 r) = S31 k := by
  have hm : may (3, 1) k := ⟨⟨by decide, by decide⟩, h1, h2⟩
  refine ⟨if_pos hm, (if_pos hm).trans ?_⟩
  have : out (S31 r) (3, 1) = [] := by
    unfold S31
    split <;> rfl
  unfold armL
  rw [this, S31_pos (by omega)]
  rfl
theorem len31 (r : Int) : (S31 r).length ≤ 1000000 := by
  unfold S31
  split <;> simp

/-- The Wheel and the variable f. -/
structure OneF (W w : World) (p bf : Nat) (mv : Option Nat) (L : TRows) : Prop where
  mine : Mine W w p mv L
  box : At w bf 31 #[.int .i64 3, .int .i64 1]
section
variable {W w w' : World} {p bf : Nat} {mv : Option Nat} {L : TRows}
theorem OneF.still (h : OneF W w p bf mv L) (hf : Foot (fun _ => False) w w') : OneF W w' p bf mv L := ⟨h.mine.still hf, h.box.keep hf id⟩
theorem OneF.ne (h : OneF W w p bf mv L) : bf ≠ p ∧ mv ≠ some bf := ⟨fun e => by subst e; exact absurd (h.box.eq h.mine.whl.at_).1 (by decide), h.mine.whl.map.ne h.box⟩
end
theorem i3 : I64 3 := by unfold I64; omega
theorem armF (W : World) (p bf : Nat) (mv : Option Nat) (L : TRows) (n : Int) (w : World) (h : OneF W w p bf mv L) {r : Int} {L' : TRows} (hr : armR (3, 1) n = r ∧ armS (3, 1) n L = L') :
    Calls Try.prog 10 #[.pointer (some ⟨p, 0, none⟩), .agg #[.int .i64 3, .int .i64 1], .int .i64 n] w fun e w' => e = .returned (.int .i64 r) ∧ ∃ mv', OneF W w' p bf mv' L' :=
  (Arm p mv L 3 1 n w h.mine.whl i3 i1).mono fun e w' ⟨h1, mv', h2, h3, h4⟩ => ⟨by rw [← hr.1]; exact h1, mv', by rw [← hr.2]; exact ⟨h.mine.step h2 h3 h4, h.box.keep h4 fun e => e.elim h.ne.1 h.ne.2⟩⟩
theorem tickF (W : World) (p bf : Nat) (mv : Option Nat) (L : TRows) (w : World) (h : OneF W w p bf mv L) (hlen : L.length ≤ 1000000) {l : List F} {L' : TRows} (hl : firedL L = l) (hL : tickL L = L') :
    Calls Try.prog 17 #[.pointer (some ⟨p, 0, none⟩)] w fun e w' => ∃ a c, e = .returned (.slice a l.length c) ∧ OneF W w' p bf mv L' ∧ Firing w' w.heap.size (.slice a l.length c) l :=
  (Tick p mv L w h.mine.whl hlen).mono fun e w' ⟨a, c, h1, h2, h3, h4⟩ => ⟨a, c, by rw [← hl]; exact h1, by rw [← hL]; exact ⟨h.mine.step h2 (Fresh.refl _ _) (h4.mono fun _ _ h => .inr h), h.box.keep h4 h.ne.2⟩, by rw [← hl]; exact h3⟩
end Go.Proofs.Ytjpepnokijbhgaa.Whl
