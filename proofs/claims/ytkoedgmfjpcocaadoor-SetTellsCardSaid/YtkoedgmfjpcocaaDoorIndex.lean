/- An array that is a value, indexed. -/
import Derived.Test.YtkoedgmfjpcocaaDoorBits
namespace Go.Proofs.YtkoedgmfjpcocaaDoor.Mem
open Go.RowKit
theorem Foot.setNew {S : Nat → Prop} {w w1 : World} (h : Foot S w w1) (b o : Nat) (hb : w.heap.size ≤ b) (u : Value) : Foot S w (w1.setCell ⟨b, o, none⟩ u) :=
  h.setCell (p := ⟨b, o, none⟩) (fun h2 => absurd h2 (Nat.not_lt.2 hb)) u
end Go.Proofs.YtkoedgmfjpcocaaDoor.Mem
namespace Go.Proofs.YtkoedgmfjpcocaaDoor.Sets
open Go.RowKit Mem Words
set_option linter.unusedVariables false
theorem idx0 (x y : Value) (w : World) : (Instr.index 26 (.agg #[x, y]) (.int .i64 0)).run Tryd.prog w = .ok x w := by
  have h := Tryd.underlying26
  simp [Instr.index, run_underlying h, asIntOf, go_sem]
theorem idx1 (x y : Value) (w : World) : (Instr.index 26 (.agg #[x, y]) (.int .i64 1)).run Tryd.prog w = .ok y w := by
  have h := Tryd.underlying26
  simp [Instr.index, run_underlying h, asIntOf, go_sem]
section
variable {P : Program} {w : World} {o : Oper} {a : Act} {Q : Exit → Act → World → Prop} {ops : Array Oper} {rest : List Oper}
theorem wpList_index (hgd : o.guard = none) (x i : Operand) (t : TypeId) (ho : o.op = .index t x i) (cs : Array Value) (u v : Value) (hx : a.eval x = .agg cs) (hi : a.eval i = u)
    (hrun : (Instr.index t (.agg cs) u).run P w = .ok v w) (hK : wpList P ops Q rest (a.put o.dst v) w) : wpList P ops Q (o :: rest) a w := by
  refine wpList_plain hgd fun K hK' => ?_
  unfold Oper.wp
  simp [execOp, ho, hx, hi, hrun, Result.andThen]
  exact hK' _ _ hK
end
end Go.Proofs.YtkoedgmfjpcocaaDoor.Sets
