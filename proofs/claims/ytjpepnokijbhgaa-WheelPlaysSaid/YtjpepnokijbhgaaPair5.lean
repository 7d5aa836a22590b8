/- Wheel and reference side by side; the steps that came in. -/
import Derived.Test.YtjpepnokijbhgaaRef5d
import Derived.Test.YtjpepnokijbhgaaKnown5
import Derived.Test.YtjpepnokijbhgaaOpen5
import Derived.Deep.Slices
namespace Go.Proofs.Ytjpepnokijbhgaa.Whl
open Go.RowKit Mem MapK Tim MapF
set_option linter.unusedVariables false

abbrev Step5 := Int × F × Int
/-- The steps that came in. -/
structure StepsIn5 (w : World) (a : Option Addr) (len cap : Nat) (z : Nat → Step5) : Prop where
  le : len ≤ cap
  max : cap ≤ maxLen
  cells : 0 < len → ∃ b off, a = some ⟨b, off, none⟩ ∧ ∀ i, i < len → w.cell? ⟨b, off + i * 4, none⟩ = some (.int .i64 (z i).1) ∧ w.cell? ⟨b, off + i * 4 + 1, none⟩ = some (.int .i64 (z i).2.1.1) ∧
    w.cell? ⟨b, off + i * 4 + 2, none⟩ = some (.int .i64 (z i).2.1.2) ∧ w.cell? ⟨b, off + i * 4 + 3, none⟩ = some (.int .i64 (z i).2.2) ∧ (I64 (z i).1 ∧ I64 (z i).2.1.1 ∧ I64 (z i).2.1.2 ∧ I64 (z i).2.2)
section
open Go.ChangeShapes Go.WideShapes
variable {H : Type} {enc : TypeId × Value → H} {w : World}
theorem openStep {n : Nat} {cs : List Value} {y : DataW H × List MemPlace} (hl : cs.length = 4) (h : DataW.trod enc Try.prog w 0 (fun _ => true) true n 33 cs = some y) :
    ∃ z : Step5, cs = [.int .i64 z.1, .int .i64 z.2.1.1, .int .i64 z.2.1.2, .int .i64 z.2.2] ∧ (I64 z.1 ∧ I64 z.2.1.1 ∧ I64 z.2.1.2 ∧ I64 z.2.2) := by
  have hi : Try.prog.cellsOf 3 = 1 := by kernel_rfl
  have hF : Try.prog.cellsOf 31 = 2 := by kernel_rfl
  obtain ⟨xs, m, _, _, _, hxl, hx⟩ := DataW.trod_struct Try.underlying33 h
  match cs, hl with
  | [c0, c1, c2, c3], _ =>
    simp only [List.size_toArray, List.length_cons, List.length_nil] at hxl
    have h0 : DataW.trod enc Try.prog w 0 (fun _ => true) true m 3 (([c0, c1, c2, c3].drop 0).take (Try.prog.cellsOf 3)) = xs[0]? := hx 0 _ rfl
    have h1 : DataW.trod enc Try.prog w 0 (fun _ => true) true m 31 (([c0, c1, c2, c3].drop 1).take (Try.prog.cellsOf 31)) = xs[1]? := hx 1 _ rfl
    have h2 : DataW.trod enc Try.prog w 0 (fun _ => true) true m 3 (([c0, c1, c2, c3].drop 3).take (Try.prog.cellsOf 3)) = xs[2]? := hx 2 _ rfl
    rw [hi, List.getElem?_eq_getElem (by simp at hxl; omega)] at h0 h2
    rw [hF, List.getElem?_eq_getElem (by simp at hxl; omega)] at h1
    obtain ⟨a, rfl, ha⟩ := cell_i64 Try.underlying3 h0
    obtain ⟨b, rfl, hb⟩ := cell_i64 Try.underlying3 h2
    obtain ⟨f, hf, hf2⟩ := openF (cs := #[c1, c2]) (enc := enc) (w := w) ⟨m, h1⟩
    have e1 : c1 = .int .i64 f.1 ∧ c2 = .int .i64 f.2 := by simpa using hf
    exact ⟨(a, f, b), by rw [e1.1, e1.2], ha, hf2.1, hf2.2, hb⟩
theorem openSteps5 {a : Option Addr} {len cap : Nat} {d : DataW H} {p : List MemPlace} (h : DataW.Trod enc Try.prog w 0 (fun _ => true) true 22 (.slice a len cap) d p) : ∃ z, StepsIn5 w a len cap z := by
  have hc : Try.prog.cellsOf 33 = 4 := by kernel_rfl
  obtain ⟨h1, h2, h3⟩ := open_elems Try.underlying22 (by rw [hc]; decide) h
  by_cases hn : len = 0
  · exact ⟨fun _ => (0, (0, 0), 0), h1, h2, fun h => absurd h (by omega)⟩
  · obtain ⟨b, off, rfl, hi⟩ := h3 (by omega)
    have : ∀ i, i < len → ∃ z : Step5, w.cell? ⟨b, off + i * 4, none⟩ = some (.int .i64 z.1) ∧ w.cell? ⟨b, off + i * 4 + 1, none⟩ = some (.int .i64 z.2.1.1) ∧
        w.cell? ⟨b, off + i * 4 + 2, none⟩ = some (.int .i64 z.2.1.2) ∧ w.cell? ⟨b, off + i * 4 + 3, none⟩ = some (.int .i64 z.2.2) ∧ (I64 z.1 ∧ I64 z.2.1.1 ∧ I64 z.2.1.2 ∧ I64 z.2.2) := by
      intro i hil
      obtain ⟨cs, n, y, hl, hcell, ht⟩ := hi i (by omega)
      rw [hc] at hl hcell
      obtain ⟨z, rfl, hz⟩ := openStep hl ht
      exact ⟨z, hcell 0 (by omega), hcell 1 (by omega), hcell 2 (by omega), hcell 3 (by omega), hz⟩
    obtain ⟨z, hz⟩ := Go.Deep.choose_lt this
    exact ⟨z, h1, h2, fun _ => ⟨b, off, rfl, hz⟩⟩
end
theorem StepsIn5.cell {w w1 : World} {a : Option Addr} {len cap : Nat} {z : Nat → Step5} (h : StepsIn5 w a len cap z) (hb : Below w.heap.size w w1) {j : Nat} (hj : j < len) :
    ∃ b off, a = some ⟨b, off, none⟩ ∧ (w1.cell? ⟨b, off + j * 4, none⟩ = some (.int .i64 (z j).1) ∧ w1.cell? ⟨b, off + j * 4 + 1, none⟩ = some (.int .i64 (z j).2.1.1) ∧ w1.cell? ⟨b, off + j * 4 + 2, none⟩ = some (.int .i64 (z j).2.1.2) ∧ w1.cell? ⟨b, off + j * 4 + 3, none⟩ = some (.int .i64 (z j).2.2)) ∧
      (I64 (z j).1 ∧ I64 (z j).2.1.1 ∧ I64 (z j).2.1.2 ∧ I64 (z j).2.2) := by
  obtain ⟨b, off, ha, hc⟩ := h.cells (by omega)
  obtain ⟨c0, c1, c2, c3, hI⟩ := hc j hj
  have hk : ∀ {o : Nat} {v : Value}, w.cell? ⟨b, o, none⟩ = some v → w1.cell? ⟨b, o, none⟩ = some v := fun c => (hb.cell (p := ⟨b, _, none⟩) (World.block_lt_of_cell? w _ c)).trans c
  exact ⟨b, off, ha, ⟨hk c0, hk c1, hk c2, hk c3⟩, hI⟩

theorem leftB_out {L : TRows} (hn : (L.map (·.1)).Nodup) (f : F) : decide ((out L f).length < L.length) = leftB L f := by
  unfold leftB
  by_cases h : ∀ p ∈ L, p.1 ≠ f
  · rw [look_none h, out_none h]
    simp
  · obtain ⟨p, hp⟩ := Classical.not_forall.1 h
    obtain ⟨hpm, he⟩ := Classical.not_imp.1 hp
    clear hp
    obtain ⟨x, y⟩ := p
    obtain rfl : x = f := Decidable.byContradiction he
    rw [look_some hn hpm]
    obtain ⟨L1, L2, rfl⟩ := List.append_of_mem hpm
    rw [out_mid hn]
    simp

/-- The Wheel and the reference's, side by side, and one block more that is neither's. -/
structure Pair (W w : World) (p q : Nat) (mv : Option Nat) (a : Option Addr) (c : Nat) (bs : Nat) (cs : Array Value) (L M : TRows) : Prop where
  mine : Mine W w p mv L
  ref : Ref5.RefAt w q a c M
  newq : W.heap.size ≤ q
  own : ∀ g, (Value.slice a M.length c).ownBlock = some g → (W.heap.size ≤ g ∧ g ≠ p) ∧ (mv ≠ some g ∧ g ≠ bs)
  box : At w bs 33 cs
def PairE (W w : World) (p q : Nat) (bs : Nat) (cs : Array Value) (L M : TRows) : Prop := ∃ mv a c, Pair W w p q mv a c bs cs L M
/-- .. without that block. -/
structure Duo (W w : World) (p q : Nat) (mv : Option Nat) (a : Option Addr) (c : Nat) (L M : TRows) : Prop where
  mine : Mine W w p mv L
  ref : Ref5.RefAt w q a c M
  newq : W.heap.size ≤ q
  own : ∀ g, (Value.slice a M.length c).ownBlock = some g → (W.heap.size ≤ g ∧ g ≠ p) ∧ mv ≠ some g
def DuoE (W w : World) (p q : Nat) (L M : TRows) : Prop := ∃ mv a c, Duo W w p q mv a c L M

section
variable {W w w' : World} {p q bs : Nat} {mv mv' : Option Nat} {a a' : Option Addr} {c c' : Nat} {cs : Array Value} {L L' M M' : TRows}
theorem Pair.ne (h : Pair W w p q mv a c bs cs L M) : (p ≠ q ∧ mv ≠ some q) ∧ (bs ≠ p ∧ bs ≠ q ∧ mv ≠ some bs) :=
  ⟨⟨h.mine.whl.at_.ne h.ref.at_ (by decide), h.mine.whl.map.ne h.ref.at_⟩, fun e => by subst e; exact absurd (h.box.eq h.mine.whl.at_).1 (by decide), fun e => by subst e; exact absurd (h.box.eq h.ref.at_).1 (by decide), h.mine.whl.map.ne h.box⟩
theorem Pair.still (h : Pair W w p q mv a c bs cs L M) (hf : Foot (fun _ => False) w w') : Pair W w' p q mv a c bs cs L M := ⟨h.mine.still hf, h.ref.still hf, h.newq, h.own, h.box.keep hf id⟩
theorem Pair.stepW (h : Pair W w p q mv a c bs cs L M) (hl : WheelAt w' p mv' L') (hm : Fresh w mv mv') (hf : Foot (fun k => k = p ∨ mv = some k) w w') : Pair W w' p q mv' a c bs cs L' M :=
  ⟨h.mine.step hl hm hf, h.ref.keep hf (fun e => e.elim (fun e => h.ne.1.1 e.symm) h.ne.1.2) (fun g hg e => e.elim (h.own g hg).1.2 (h.own g hg).2.1), h.newq,
   fun g hg => ⟨(h.own g hg).1, fun e => by
      rcases hm g e with h1 | h1
      · exact (h.own g hg).2.1 h1
      · have := h.ref.items.lt hg; omega, (h.own g hg).2.2⟩, h.box.keep hf fun e => e.elim h.ne.2.1 h.ne.2.2.2⟩
theorem Pair.stepR (h : Pair W w p q mv a c bs cs L M) (hr : Ref5.RefAt w' q a' c' M') (hm : Moved w (.slice a M.length c) (.slice a' M'.length c')) (hf : Foot (fun k => k = q) w w') : Pair W w' p q mv a' c' bs cs L M' :=
  ⟨⟨h.mine.whl.keep hf h.ne.1.1 fun b hb e => h.ne.1.2 (by rw [hb, e]), h.mine.new, h.mine.newm, h.mine.below.trans (hf.below (fun k _ e => by have := h.newq; omega) h.mine.below.size)⟩, hr, h.newq,
   fun g hg => by
      rcases hm g hg with h1 | h1
      · exact h.own g h1
      · have h2 := h.mine.below.size
        have h3 := h.mine.whl.at_.lt
        have h4 := h.box.lt
        refine ⟨⟨by omega, by omega⟩, fun e => ?_, by omega⟩
        subst e
        have := h.mine.whl.map.lt
        omega, h.box.keep hf h.ne.2.2.1⟩
theorem PairE.still (h : PairE W w p q bs cs L M) (hf : Foot (fun _ => False) w w') : PairE W w' p q bs cs L M := by
  obtain ⟨mv, a, c, h⟩ := h
  exact ⟨mv, a, c, h.still hf⟩
theorem PairE.duo (h : PairE W w p q bs cs L M) : DuoE W w p q L M := by
  obtain ⟨mv, a, c, h⟩ := h
  exact ⟨mv, a, c, h.mine, h.ref, h.newq, fun g hg => ⟨(h.own g hg).1, (h.own g hg).2.1⟩⟩
theorem DuoE.below (h : DuoE W w p q L M) : Below W.heap.size W w := by
  obtain ⟨mv, a, c, h⟩ := h
  exact h.mine.below
theorem DuoE.box (h : DuoE W w p q L M) (cs : Array Value) : PairE W (w.alloc (.cells cs 33)) p q w.heap.size cs L M := by
  obtain ⟨mv, a, c, h⟩ := h
  have hf := (Foot.refl (fun _ => False) w).alloc (.cells cs 33)
  exact ⟨mv, a, c, h.mine.still hf, h.ref.still hf, h.newq, fun g hg => ⟨(h.own g hg).1, (h.own g hg).2, fun e => by have := h.ref.items.lt hg; omega⟩, At.new _ _ _⟩
theorem PairE.at_ (h : PairE W w p q bs cs L M) : At w bs 33 cs := by
  obtain ⟨mv, a, c, h⟩ := h
  exact h.box
theorem PairE.below (h : PairE W w p q bs cs L M) : Below W.heap.size W w := h.duo.below
theorem PairE.good (h : PairE W w p q bs cs L M) : Fine L ∧ Fine M := by
  obtain ⟨mv, a, c, h⟩ := h
  exact ⟨h.mine.whl.good, h.ref.good⟩

variable (W w p q bs cs L M)
variable (i t n : Int)
theorem sArm (h : PairE W w p q bs cs L M) (hi : I64 i) (ht : I64 t) :
    Calls Try.prog 10 #[.pointer (some ⟨p, 0, none⟩), .agg #[.int .i64 i, .int .i64 t], .int .i64 n] w fun e w' => e = .returned (.int .i64 (armR (i, t) n)) ∧ PairE W w' p q bs cs (armS (i, t) n L) M := by
  obtain ⟨mv, a, c, h⟩ := h
  exact (Arm p mv L i t n w h.mine.whl hi ht).mono fun e w' ⟨h1, mv', h2, h3, h4⟩ => ⟨h1, mv', a, c, h.stepW h2 h3 h4⟩
theorem rArm (h : PairE W w p q bs cs L M) (hi : I64 i) (ht : I64 t) (hlen : M.length ≤ 900000) :
    Calls Try.prog 11 #[.pointer (some ⟨q, 0, none⟩), .agg #[.int .i64 i, .int .i64 t], .int .i64 n] w fun e w' => e = .returned (.int .i64 (armR (i, t) n)) ∧ PairE W w' p q bs cs L (armS (i, t) n M) := by
  obtain ⟨mv, a, c, h⟩ := h
  exact (Ref5.Arm q a c M i t n w h.ref hi ht hlen).mono fun e w' ⟨h1, a', c', h2, h3, h4⟩ => ⟨h1, mv, a', c', h.stepR h2 h3 h4⟩
theorem sCancel (h : PairE W w p q bs cs L M) (hi : I64 i) (ht : I64 t) :
    Calls Try.prog 12 #[.pointer (some ⟨p, 0, none⟩), .agg #[.int .i64 i, .int .i64 t]] w fun e w' => e = .returned (.bool (leftB L (i, t))) ∧ PairE W w' p q bs cs (out L (i, t)) M := by
  obtain ⟨mv, a, c, h⟩ := h
  exact (Cancel p mv L i t w h.mine.whl hi ht).mono fun e w' ⟨h1, h2, h3⟩ => ⟨h1, mv, a, c, h.stepW h2 (Fresh.refl _ _) (h3.mono fun _ _ e => .inr e)⟩
theorem rCancel (h : PairE W w p q bs cs L M) (hlen : M.length ≤ 900000) :
    Calls Try.prog 13 #[.pointer (some ⟨q, 0, none⟩), .agg #[.int .i64 i, .int .i64 t]] w fun e w' => e = .returned (.bool (leftB M (i, t))) ∧ PairE W w' p q bs cs L (out M (i, t)) := by
  obtain ⟨mv, a, c, h⟩ := h
  exact (Ref5.Cancel q a c M i t w h.ref (by omega)).mono fun e w' ⟨h1, a', c', h2, h3, h4⟩ => ⟨by rw [← leftB_out h.ref.good.nodup]; exact h1, mv, a', c', h.stepR h2 h3 h4⟩
theorem sClear (h : PairE W w p q bs cs L M) (hlen : L.length ≤ 900000) :
    Calls Try.prog 14 #[.pointer (some ⟨p, 0, none⟩), .int .i64 i] w fun e w' => e = .returned (.int .i64 (L.length - (clearL i L).length)) ∧ PairE W w' p q bs cs (clearL i L) M := by
  obtain ⟨mv, a, c, h⟩ := h
  exact (Clear p mv L i w h.mine.whl (by omega)).mono fun e w' ⟨h1, h2, h3⟩ => ⟨h1, mv, a, c, h.stepW h2 (Fresh.refl _ _) (h3.mono fun _ _ e => .inr e)⟩
theorem rClear (h : PairE W w p q bs cs L M) (hlen : M.length ≤ 900000) :
    Calls Try.prog 15 #[.pointer (some ⟨q, 0, none⟩), .int .i64 i] w fun e w' => e = .returned (.int .i64 (M.length - (clearL i M).length)) ∧ PairE W w' p q bs cs L (clearL i M) := by
  obtain ⟨mv, a, c, h⟩ := h
  exact (Ref5.Clear q a c M i w h.ref (by omega)).mono fun e w' ⟨h1, a', c', h2, h3, h4⟩ => ⟨h1, mv, a', c', h.stepR h2 h3 h4⟩
theorem sTick (h : PairE W w p q bs cs L M) (hlen : L.length ≤ 900000) :
    Calls Try.prog 17 #[.pointer (some ⟨p, 0, none⟩)] w fun e w' => ∃ a c, e = .returned (.slice a (firedL L).length c) ∧ PairE W w' p q bs cs (tickL L) M ∧ Firing w' w.heap.size (.slice a (firedL L).length c) (firedL L) := by
  obtain ⟨mv, a, c, h⟩ := h
  exact (Tick p mv L w h.mine.whl (by omega)).mono fun e w' ⟨a', c', h1, h2, h3, h4⟩ => ⟨a', c', h1, ⟨mv, a, c, h.stepW h2 (Fresh.refl _ _) (h4.mono fun _ _ e => .inr e)⟩, h3⟩
theorem rTick (h : PairE W w p q bs cs L M) (hlen : M.length ≤ 900000) {lo : Nat} {v : Value} {l : List F} (hF : Firing w lo v l) (hlo : q < lo) :
    Calls Try.prog 18 #[.pointer (some ⟨q, 0, none⟩)] w fun e w' => ∃ a c, e = .returned (.slice a (firedL M).length c) ∧ PairE W w' p q bs cs L (tickL M) ∧ Firing w' w.heap.size (.slice a (firedL M).length c) (firedL M) ∧ Firing w' lo v l := by
  obtain ⟨mv, a, c, h⟩ := h
  exact (Ref5.Tick q a c M w h.ref hlen).mono fun e w' ⟨a2, c2, a', c', h1, h2, h3, h4, h5⟩ => ⟨a2, c2, h1, ⟨mv, a', c', h.stepR h2 h4 h5⟩, h3, hF.old h5 fun k e => by omega⟩
theorem sLeft (h : PairE W w p q bs cs L M) (hi : I64 i) (ht : I64 t) :
    Calls Try.prog 19 #[.pointer (some ⟨p, 0, none⟩), .agg #[.int .i64 i, .int .i64 t]] w fun e w' => e = .returned (.tuple #[.int .i64 (leftN L (i, t)), .bool (leftB L (i, t))]) ∧ PairE W w' p q bs cs L M := by
  obtain ⟨mv, a, c, h⟩ := h
  exact (Left p mv L i t w h.mine.whl hi ht).mono fun e w' ⟨h1, h2⟩ => ⟨h1, mv, a, c, h.still h2⟩
theorem rLeft (h : PairE W w p q bs cs L M) (hlen : M.length ≤ 900000) :
    Calls Try.prog 20 #[.pointer (some ⟨q, 0, none⟩), .agg #[.int .i64 i, .int .i64 t]] w fun e w' => e = .returned (.tuple #[.int .i64 (leftN M (i, t)), .bool (leftB M (i, t))]) ∧ PairE W w' p q bs cs L M := by
  obtain ⟨mv, a, c, h⟩ := h
  exact (Ref5.Left q a c M i t w h.ref (by omega)).mono fun e w' ⟨h1, h2⟩ => ⟨h1, mv, a, c, h.still h2⟩
theorem sNext (h : PairE W w p q bs cs L M) :
    Calls Try.prog 21 #[.pointer (some ⟨p, 0, none⟩)] w fun e w' => e = .returned (.tuple #[.int .i64 (nextN L), .bool (nextB L)]) ∧ PairE W w' p q bs cs L M := by
  obtain ⟨mv, a, c, h⟩ := h
  exact (Next p mv L w h.mine.whl).mono fun e w' ⟨h1, h2⟩ => ⟨h1, mv, a, c, h.still h2⟩
theorem rNext (h : PairE W w p q bs cs L M) (hlen : M.length ≤ 900000) :
    Calls Try.prog 22 #[.pointer (some ⟨q, 0, none⟩)] w fun e w' => e = .returned (.tuple #[.int .i64 (nextN M), .bool (nextB M)]) ∧ PairE W w' p q bs cs L M := by
  obtain ⟨mv, a, c, h⟩ := h
  exact (Ref5.Next q a c M w h.ref (by omega)).mono fun e w' ⟨h1, h2⟩ => ⟨h1, mv, a, c, h.still h2⟩
theorem sLen (h : PairE W w p q bs cs L M) :
    Calls Try.prog 23 #[.pointer (some ⟨p, 0, none⟩)] w fun e w' => e = .returned (.int .i64 L.length) ∧ w' = w := by
  obtain ⟨mv, a, c, h⟩ := h
  exact (Len p mv L w h.mine.whl).mono fun e w' ⟨h1, h2⟩ => ⟨h1, h2.symm⟩
end
end Go.Proofs.Ytjpepnokijbhgaa.Whl
