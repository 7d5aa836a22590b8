/- A slice literal of one element, said by its cells: no walk reckons it. -/
import Derived.Test.YtdibkgjldmepcaaDoorGenG
import Derived.Great.BuildSlice
namespace Go.Proofs.YtdibkgjldmepcaaDoor.Gen
open Go.RowKit Mem Lex
set_option linter.unusedVariables false
section
variable {w : World} {o : Oper} {a : Act} {ops : Array Oper} {rest : List Oper} {Q : Exit → Act → World → Prop} {K : Act → World → Prop}
theorem wp_slice1 (x : Operand) {t e : TypeId} {sz : Nat} (hT : ElemT t e sz) (hp : 0 < sz) (hs : sz ≤ 100) (ho : o.op = .buildSlice t 1 #[(0, x)]) (us : List Value) (hl : us.length = sz) (hx : a.eval x = .agg us.toArray)
    (hK : K (a.put o.dst (.slice (some ⟨w.heap.size, 0, none⟩) 1 1)) (w.alloc (.cells us.toArray e))) : o.wp Tryd.prog a w K Q := by
  obtain ⟨hu, i, z, hi, hz, hsz, hzs, hb⟩ := hT.out
  refine wp_buildSlice t e 1 #[(0, x)] ho us.toArray i z hu hi hz (by rw [hsz]; omega) (by rw [hsz]; omega) ?_ hK
  have h1 := Great.fill_whole (s := sz) hp [.agg us.toArray] ((Array.range (1 * i.size)).map (z.cells[· % z.cells.size]!)) (fun v hv => by simp at hv; subst hv; simpa [Value.cells] using hl) (by simp [hsz])
  have h2 : (#[(0, x)].map fun (p : Nat × Operand) => (p.1, a.eval p.2)).toList = [(0, Value.agg us.toArray)] := by
    simp only [List.map_toArray, List.map_cons, List.map_nil, hx]
  rw [hsz] at h1 ⊢
  rw [h2]
  simpa [Value.cells] using h1
theorem wpList_slice1 (hgd : o.guard = none) (x : Operand) {t e : TypeId} {sz : Nat} (hT : ElemT t e sz) (hp : 0 < sz) (hs : sz ≤ 100) (ho : o.op = .buildSlice t 1 #[(0, x)]) (us : List Value) (hl : us.length = sz) (hx : a.eval x = .agg us.toArray)
    (hK : wpList Tryd.prog ops Q rest (a.put o.dst (.slice (some ⟨w.heap.size, 0, none⟩) 1 1)) (w.alloc (.cells us.toArray e))) : wpList Tryd.prog ops Q (o :: rest) a w :=
  wpList_plain hgd fun _ hK' => wp_slice1 x hT hp hs ho us hl hx (hK' _ _ hK)
/-- Cells stored in a block from a place on. -/
theorem run_storeCells_at (g off : Nat) (t : TypeId) : ∀ (vs : List Value) (i : Nat) (cur : Array Value) (w : World), w.heap[g]? = some (.cells cur t (0, 0)) → off + i + vs.length ≤ cur.size → (∀ v ∈ vs, v.oneCell' = true) →
    (storeCells ⟨g, off, none⟩ vs i).run Tryd.prog w = .ok () (w.setRow g (laid cur (off + i) vs))
  | [], i, cur, w, hg, hl, _ => by
    have h0 := run_storeCells_from (P := Tryd.prog) g t [] cur.size cur w hg (by simp) (by simp)
    simp only [storeCells, List.append_nil] at h0 ⊢
    rw [List.take_of_length_le (by simp)] at h0
    rw [h0]
    unfold laid
    simp
  | v :: rest, i, cur, w, hg, hl, h1 => by
    have hi : off + i < cur.size := by simp at hl; omega
    have hadd : (⟨g, off, none⟩ : Addr).add i = ⟨g, off + i, none⟩ := by unfold Addr.add; split <;> simp_all
    have hcell : w.cell? ⟨g, off + i, none⟩ = some cur[off + i] := by simp [World.cell?, hg, hi]
    have hfro : w.frozen? ⟨g, off + i, none⟩ = false := by simp [World.frozen?, hg]
    have hst : (store ((⟨g, off, none⟩ : Addr).add i) v).run Tryd.prog w = .ok () (w.setRow g (cur.setIfInBounds (off + i) v)) := by
      rw [hadd, run_store Tryd.prog w _ v _ (h1 v (by simp)), hcell]
      simp [hfro, setCell_eq_setRow w g (off + i) cur t (0, 0) v hg]
    have ih := run_storeCells_at g off t rest (i + 1) (cur.setIfInBounds (off + i) v) (w.setRow g (cur.setIfInBounds (off + i) v)) (setRow_heap w g cur _ t _ hg) (by simp at hl ⊢; omega) (fun x hx => h1 x (by simp [hx]))
    simp only [storeCells, Sem.run_bind, hst, Result.andThen_ok, ih, setRow_setRow]
    congr 2
    unfold laid
    congr 1
    apply List.ext_getElem?
    intro k
    simp only [Array.toList_setIfInBounds, List.append_assoc, List.getElem?_append, List.length_take, List.length_set, Array.length_toList, List.getElem?_drop, List.length_cons, List.getElem?_set, List.getElem?_take]
    simp only [List.length_cons] at hl
    have e1 : min (off + (i + 1)) cur.size = off + i + 1 := by omega
    have e2 : min (off + i) cur.size = off + i := by omega
    rw [e1, e2]
    rcases Nat.lt_trichotomy k (off + i) with hk | hk | hk
    · simp [hk, show k < off + i + 1 by omega, show off + i ≠ k by omega]
      intro; omega
    · subst hk
      simp [hi]
    · have a1 : ¬ k < off + i + 1 := by omega
      have a2 : ¬ k < off + i := by omega
      obtain ⟨j, rfl⟩ : ∃ j, k = off + i + 1 + j := ⟨k - (off + i + 1), by omega⟩
      simp only [if_neg a1, if_neg a2, show off + i + 1 + j - (off + i + 1) = j by omega, show off + i + 1 + j - (off + i) = j + 1 by omega, List.getElem?_cons_succ, Nat.add_lt_add_iff_right]
      split
      · rfl
      · rename_i hj
        rw [if_neg (by omega)]
        congr 1
        omega
theorem wp_store_laid (ty : TypeId) (x y : Operand) (ho : o.op = .store ty x y) (g off : Nat) (us : List Value) (hx : a.eval x = .pointer (some ⟨g, off, none⟩)) (hy : a.eval y = .agg us.toArray)
    (t : TypeId) (cur : Array Value) (hg : At w g t cur) (hi : (Tryd.prog.info? ty).map (·.size) = some us.length) (hl : off + us.length ≤ cur.size) (h1 : ∀ u ∈ us, u.oneCell' = true)
    (h : K (a.put o.dst undef) (w.setRow g (laid cur off us))) : o.wp Tryd.prog a w K Q := by
  have h0 := run_storeCells_at g off t us 0 cur w hg (by omega) h1
  have hv : (storeVar ty ⟨g, off, none⟩ (.agg us.toArray)).run Tryd.prog w = .ok () (w.setRow g (laid cur off us)) := by
    cases hq : Tryd.prog.info? ty with
    | none => simp [hq] at hi
    | some i =>
      have hs : us.length = i.size := by simp [hq] at hi; omega
      simp [storeVar, sizeOf, typeInfo, hq, Value.cells, hs, h0]
  unfold Oper.wp execOp
  simp only [ho, hx, hy, Instr.storeAt, Instr.sureAddr, Sem.run_bind, Sem.run_pure, Result.andThen_ok, hv]
  exact h
end
end Go.Proofs.YtdibkgjldmepcaaDoor.Gen
