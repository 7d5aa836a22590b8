/- What the law of steps holds from round to round. -/
import Derived.Test.YtkoedgmfjpcocaaDoorLaw3b
namespace Go.Proofs.YtkoedgmfjpcocaaDoor.Sets
open Go.RowKit Mem Words
open Refs (nums without inB inB_mem)
set_option linter.unusedVariables false

/-- The set in its box, the list that reads the same. -/
structure Loop3 (w wx : World) (bs : Nat) (p : Nat → Bool) (am : Option Addr) : Prop where
  foot : Foot (fun _ => False) w wx
  s : Box wx bs p
  m : ReadsI wx am (nums (els p)).length (nums (els p))
  ne : ∀ x, am = some x → x.block ≠ bs
  own : w.heap.size ≤ bs
  tab : Tab wx
theorem Loop3.step {w wx wy : World} {bs : Nat} {p : Nat → Bool} {am : Option Addr} (h : Loop3 w wx bs p am) (hF : Foot (fun _ => False) wx wy) : Loop3 w wy bs p am :=
  ⟨h.foot.trans hF fun _ _ h => h, h.s.foot hF, h.m.keep hF fun _ _ => id, h.ne, h.own, h.tab.foot hF id⟩
theorem Loop3.hstep {w wx wy : World} {bs : Nat} {p : Nat → Bool} {am : Option Addr} (hF : Foot (fun _ => False) wx wy) (h : Hid (Loop3 w wx bs p am)) : Hid (Loop3 w wy bs p am) := Lib.hid (h.out.step hF)
theorem Loop3.hold {w wx : World} {bs : Nat} {p : Nat → Bool} {am : Option Addr} (h : Hid (Loop3 w wx bs p am)) :
    wx.cell? ⟨bs, 0, none⟩ = some (.int .u64 (lo p : Nat)) ∧ wx.cell? ⟨bs, 1, none⟩ = some (.int .u64 (hi p : Nat)) ∧ Hid (Loop3 w wx bs p am) := ⟨h.out.s.c0, h.out.s.c1, h⟩

/-- For a region that ends in a store to the set's box: what is held of each world. -/
theorem hold_in {wr w' : World} {bs b o : Nat} {v : Value} (hne : b ≠ bs) (hc : wr.cell? ⟨b, o, none⟩ = some v) (hF : Foot (fun x => x = bs) wr w') : w'.cell? ⟨b, o, none⟩ = some v ∧ Hid (Foot (fun x => x = bs) wr w') :=
  ⟨(hF.cell (World.block_lt_of_cell? _ _ hc) hne).trans hc, Lib.hid hF⟩
theorem Foot.wide {S : Nat → Prop} {w w' : World} (h : Foot (fun _ => False) w w') : Foot S w w' := h.mono fun _ _ h => h.elim

theorem without_one (p : Nat → Bool) (z : Int) : without (nums (els p)) [z] = nums (els (delP p z)) := by
  rw [without_nums]
  congr 1
  apply els_congr
  intro j _
  simp only [delP, inB_mem, List.mem_singleton]
theorem of_snoc (p : Nat → Bool) (z : Int) : Agree (addP p z) (ofP (nums (els p) ++ [z])) := by
  intro j hj
  simp only [addP, ofP]
  rw [Bool.eq_iff_iff, Bool.or_eq_true, List.contains_eq_mem, decide_eq_true_eq, decide_eq_true_eq, List.mem_append, cast_mem, List.mem_singleton]
  constructor
  · rintro (h | h)
    · exact .inl ⟨hj, h⟩
    · exact .inr h
  · rintro (h | h)
    · exact .inl h.2
    · exact .inr h

/-- The state behind the store: the set's new words stand in the box, the new list beside it. -/
theorem Loop3.stored {w wr w12 : World} {bs : Nat} {p p2 : Nat → Bool} {am a12 : Option Addr} (h : Loop3 w wr bs p am) (hF : Foot (fun _ => False) wr w12) (hr : ReadsI w12 a12 (nums (els p2)).length (nums (els p2)))
    (ho : ∀ x, a12 = some x → x.block ≠ bs) : Loop3 w ((w12.setCell ⟨bs, 0, none⟩ (.int .u64 (lo p2 : Nat))).setCell ⟨bs, 1, none⟩ (.int .u64 (hi p2 : Nat))) bs p2 a12 := by
  have hb : Foot (fun x => x = bs) w12 ((w12.setCell ⟨bs, 0, none⟩ (.int .u64 (lo p2 : Nat))).setCell ⟨bs, 1, none⟩ (.int .u64 (hi p2 : Nat))) :=
    ((Foot.refl (fun x => x = bs) w12).setCell (p := ⟨bs, 0, none⟩) (fun _ => rfl) _).setCell (p := ⟨bs, 1, none⟩) (fun _ => rfl) _
  have h2 := h.step hF
  have hb0 : bs ≠ 0 := by
    rintro rfl
    have := h2.tab.2 0 (by omega)
    rw [h2.s.c0] at this
    simp at this
  refine ⟨(h2.foot.setNew _ _ h.own _).setNew _ _ h.own _, ?_, hr.keep hb ho, ho, h.own, h2.tab.foot hb fun e => hb0 e.symm⟩
  exact (At.set h2.s 0 _).set 1 _

/-- Bools that came in. -/
structure BoolsIn (w : World) (a : Option Addr) (len cap : Nat) : Prop where
  le : len ≤ cap
  max : cap ≤ maxLen
  reads : 0 < len → ∃ b off, a = some ⟨b, off, none⟩ ∧ ∀ j, j < len → ∃ x : Bool, w.cell? ⟨b, off + j, none⟩ = some (.bool x)
end Go.Proofs.YtkoedgmfjpcocaaDoor.Sets
