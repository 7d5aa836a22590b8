/- A Wheel and the map of its marks side by side (law 5's WheelOrder). -/
import Derived.Test.YtjpepnokijbhgaaSeen5
namespace Go.Proofs.Ytjpepnokijbhgaa.Whl
open Go.RowKit Mem MapK Tim MapF
set_option linter.unusedVariables false

structure Ord (W w : World) (p sb : Nat) (mv : Option Nat) (L : TRows) (T : List F) : Prop where
  mine : Mine W w p mv L
  seen : SMap w sb T
  news : W.heap.size ≤ sb
  ne : mv ≠ some sb
section
variable {W w w' : World} {p sb bf : Nat} {mv mv' : Option Nat} {L L' : TRows} {T T' : List F} {cs : Array Value}
theorem Ord.nep (h : Ord W w p sb mv L T) : sb ≠ p := h.seen.ne h.mine.whl.at_
theorem Ord.still (h : Ord W w p sb mv L T) (hf : Foot (fun _ => False) w w') : Ord W w' p sb mv L T := ⟨h.mine.still hf, h.seen.keep hf id, h.news, h.ne⟩
theorem Ord.stepW (h : Ord W w p sb mv L T) (hl : WheelAt w' p mv' L') (hm : Fresh w mv mv') (hf : Foot (fun k => k = p ∨ mv = some k) w w') : Ord W w' p sb mv' L' T :=
  ⟨h.mine.step hl hm hf, h.seen.keep hf fun e => e.elim h.nep h.ne, h.news, fun e => by
    rcases hm _ e with h1 | h1
    · exact h.ne h1
    · have := h.seen.lt; omega⟩
theorem Ord.mark (h : Ord W w p sb mv L T) (hs : SMap w' sb T') (hf : Foot (fun j => j = sb) w w') : Ord W w' p sb mv L T' :=
  ⟨⟨h.mine.whl.keep hf (fun e => h.nep e.symm) fun b hb e => h.ne (by rw [hb, e]), h.mine.new, h.mine.newm, h.mine.below.trans (hf.below (fun k _ e => by have := h.news; omega) h.mine.below.size)⟩, hs, h.news, h.ne⟩
/-- A variable of the law's own stays what it is. -/
theorem Ord.boxW (h : Ord W w p sb mv L T) {cs : Array Value} (hb : At w bf 31 cs) (hf : Foot (fun k => k = p ∨ mv = some k) w w') : At w' bf 31 cs :=
  hb.keep hf fun e => e.elim (fun e => by subst e; exact absurd (hb.eq h.mine.whl.at_).1 (by decide)) (h.mine.whl.map.ne hb)
theorem Ord.of_new {w1 : World} (hB : Below W.heap.size W w1) (h : Mine W w1 p none []) : Ord W (w1.alloc (.map #[] 0)) p w1.heap.size none (stand 0 []) [] :=
  ⟨h.still ((Foot.refl _ w1).alloc _), MapV.made (P := Try.prog) (k := 31) (ek := ekF) (ev := Value.bool) w1, hB.size, fun e => by cases e⟩
end
theorem armO (W : World) (p sb : Nat) (mv : Option Nat) (L : TRows) (T : List F) (i t n : Int) (w : World) (h : Ord W w p sb mv L T) (hi : I64 i) (ht : I64 t) :
    Calls Try.prog 10 #[.pointer (some ⟨p, 0, none⟩), .agg #[.int .i64 i, .int .i64 t], .int .i64 n] w fun e w' => e = .returned (.int .i64 (armR (i, t) n)) ∧ ∃ mv', Ord W w' p sb mv' (armS (i, t) n L) T ∧ Foot (fun k => k = p ∨ mv = some k) w w' :=
  (Arm p mv L i t n w h.mine.whl hi ht).mono fun e w' ⟨h1, mv', h2, h3, h4⟩ => ⟨h1, mv', h.stepW h2 h3 h4, h4⟩
theorem tickO (W : World) (p sb : Nat) (mv : Option Nat) (L : TRows) (T : List F) (w : World) (h : Ord W w p sb mv L T) (hlen : L.length ≤ 1000000) {l : List F} {L' : TRows} (hl : firedL L = l) (hL : tickL L = L') :
    Calls Try.prog 17 #[.pointer (some ⟨p, 0, none⟩)] w fun e w' => ∃ a c, e = .returned (.slice a l.length c) ∧ Ord W w' p sb mv L' T ∧ Firing w' w.heap.size (.slice a l.length c) l :=
  (Tick p mv L w h.mine.whl hlen).mono fun e w' ⟨a, c, h1, h2, h3, h4⟩ => ⟨a, c, by rw [← hl]; exact h1, by rw [← hL]; exact h.stepW h2 (Fresh.refl _ _) (h4.mono fun _ _ h => .inr h), by rw [← hl]; exact h3⟩
end Go.Proofs.Ytjpepnokijbhgaa.Whl
