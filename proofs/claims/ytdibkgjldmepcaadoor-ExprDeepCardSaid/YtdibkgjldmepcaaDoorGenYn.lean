/- A slice literal of several elements, said by its cells. -/
import Derived.Test.YtdibkgjldmepcaaDoorGenY
namespace Go.Proofs.YtdibkgjldmepcaaDoor.Gen
open Go.RowKit Mem Lex
set_option linter.unusedVariables false
section
variable {w : World} {o : Oper} {a : Act} {ops : Array Oper} {rest : List Oper} {Q : Exit → Act → World → Prop} {K : Act → World → Prop}
theorem flatMap_aggs : ∀ (uss : List (List Value)), ((uss.map fun us => Value.agg us.toArray).flatMap fun v => v.cells.toList) = uss.flatten
  | [] => rfl
  | us :: r => by
    rw [List.map_cons, List.flatMap_cons, flatMap_aggs r, List.flatten_cons]
    rfl
theorem wp_sliceN (n : Nat) (parts : Array (Nat × Operand)) {t e : TypeId} {sz : Nat} (hT : ElemT t e sz) (hp : 0 < sz) (hs : sz ≤ 100) (hn : 0 < n ∧ n ≤ 100) (ho : o.op = .buildSlice t n parts) (uss : List (List Value)) (hl : uss.length = n) (hu : ∀ us ∈ uss, us.length = sz)
    (hx : (parts.map fun (p : Nat × Operand) => (p.1, a.eval p.2)).toList = ((uss.map fun us => Value.agg us.toArray).zipIdx 0).map fun x => (x.2, x.1))
    (hK : K (a.put o.dst (.slice (some ⟨w.heap.size, 0, none⟩) n n)) (w.alloc (.cells uss.flatten.toArray e))) : o.wp Tryd.prog a w K Q := by
  obtain ⟨hu', i, z, hi, hz, hsz, hzs, hb⟩ := hT.out
  have h100 : n * i.size ≤ 100 * 100 := Nat.mul_le_mul hn.2 (by omega)
  have hpos : 0 < n * i.size := Nat.mul_pos hn.1 (by omega)
  refine wp_buildSlice t e n parts ho uss.flatten.toArray i z hu' hi hz (by omega) (by omega) ?_ hK
  have h1 := Great.fill_whole (s := sz) hp (uss.map fun us => Value.agg us.toArray) ((Array.range (n * i.size)).map (z.cells[· % z.cells.size]!)) (fun v hv => by
    obtain ⟨us, hm, rfl⟩ := List.mem_map.1 hv
    simpa [Value.cells] using hu us hm) (by rw [List.length_map, hl, hsz]; simp)
  rw [flatMap_aggs] at h1
  rw [hsz] at h1 ⊢
  rw [hx]
  exact h1
theorem wpList_sliceN (hgd : o.guard = none) (n : Nat) (parts : Array (Nat × Operand)) {t e : TypeId} {sz : Nat} (hT : ElemT t e sz) (hp : 0 < sz) (hs : sz ≤ 100) (hn : 0 < n ∧ n ≤ 100) (ho : o.op = .buildSlice t n parts) (uss : List (List Value)) (hl : uss.length = n) (hu : ∀ us ∈ uss, us.length = sz)
    (hx : (parts.map fun (p : Nat × Operand) => (p.1, a.eval p.2)).toList = ((uss.map fun us => Value.agg us.toArray).zipIdx 0).map fun x => (x.2, x.1))
    (hK : wpList Tryd.prog ops Q rest (a.put o.dst (.slice (some ⟨w.heap.size, 0, none⟩) n n)) (w.alloc (.cells uss.flatten.toArray e))) : wpList Tryd.prog ops Q (o :: rest) a w :=
  wpList_plain hgd fun _ hK' => wp_sliceN n parts hT hp hs hn ho uss hl hu hx (hK' _ _ hK)
end
end Go.Proofs.YtdibkgjldmepcaaDoor.Gen
