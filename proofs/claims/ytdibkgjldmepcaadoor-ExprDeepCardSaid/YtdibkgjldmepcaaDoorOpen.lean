/- Arguments opened: what the readings of slices say of memory. -/
import Derived.Test.YtdibkgjldmepcaaDoorMem
import Derived.Deep.Slices
import Derived.Deep.Fields
import Derived.ChangeSlices
import Derived.OpenShut
namespace Go.Proofs.YtdibkgjldmepcaaDoor.Mem
open Go.RowKit
set_option linter.unusedVariables false

/-! ### Arguments opened. -/
section
open Go.ChangeShapes Go.WideShapes
variable {H : Type} {enc : TypeId × Value → H} {P : Program} {w : World}
/-- What is known of an address that leads to a cell. -/
theorem plain_of_cell {a : Addr} {v : Value} (h : w.cell? a = some v) : a = ⟨a.block, a.off, none⟩ := by
  obtain ⟨b, o, s⟩ := a
  cases s with
  | none => rfl
  | some s =>
    exfalso
    simp only [World.cell?] at h
    split at h <;> simp at h
theorem add_plain (b o j : Nat) : (⟨b, o, none⟩ : Addr).add j = ⟨b, o + j, none⟩ := by unfold Addr.add; split <;> simp_all

/-- A slice of ints that came in. -/
structure IntsIn (w : World) (a : Option Addr) (len cap : Nat) (zs : List Int) : Prop where
  reads : ReadsI w a len zs
  le : len ≤ cap
  max : cap ≤ maxLen
  fits : ∀ z ∈ zs, -9223372036854775808 ≤ z ∧ z ≤ 9223372036854775807
theorem wf_i64 {z : Int} (h : (Lit.int .i64 z).wf = true) : -9223372036854775808 ≤ z ∧ z ≤ 9223372036854775807 := by
  simp [Lit.wf, IntKind.min, IntKind.max, IntKind.bits, IntKind.signed] at h
  omega
theorem open_ints_in {t e : TypeId} {a : Option Addr} {len cap : Nat} {d : DataW H} {p : List MemPlace} (ht : P.underlying t = some (.slice e)) (he : P.underlying e = some (.int .i64)) (hc : P.cellsOf e = 1)
    (h : DataW.Trod enc P w 0 (fun _ => true) true t (.slice a len cap) d p) : ∃ zs, IntsIn w a len cap zs := by
  obtain ⟨fuel, hf⟩ := h
  rcases open_ints ht he hc hf with ⟨hcs, _⟩ | ⟨x, l, c, zs, hcs, _, hl, hm, hz, _, hcell, hwz⟩
  · simp [Value.cells] at hcs
    obtain ⟨rfl, rfl, rfl⟩ := hcs
    exact ⟨[], ⟨rfl, fun h => absurd h (by omega)⟩, Nat.le_refl _, Nat.zero_le _, fun z hz => by cases hz⟩
  · simp [Value.cells] at hcs
    obtain ⟨rfl, rfl, rfl⟩ := hcs
    have hz' : zs.length = cap := by simpa using hz
    refine ⟨zs.take len, ⟨by rw [List.length_take]; omega, fun hn => ?_⟩, hl, hm, fun z h => wf_i64 (hwz z (List.mem_of_mem_take h))⟩
    have h0 := hcell 0 (by omega)
    rw [Addr.add_zero'] at h0
    have hx := plain_of_cell h0
    refine ⟨x.block, x.off, congrArg some hx, fun j hj => ?_⟩
    have hj' := hcell j (by omega)
    rw [hx, add_plain] at hj'
    rw [hj']
    simp [List.getD, hj]
/-- A slice of anything that came in: its elements' cells, and each one's own reading. -/
theorem open_elems {t e : TypeId} {a : Option Addr} {len cap : Nat} {d : DataW H} {p : List MemPlace} (ht : P.underlying t = some (.slice e)) (hsz : 0 < P.cellsOf e)
    (h : DataW.Trod enc P w 0 (fun _ => true) true t (.slice a len cap) d p) :
    len ≤ cap ∧ cap ≤ maxLen ∧ (0 < cap → ∃ b off, a = some ⟨b, off, none⟩ ∧ ∀ i, i < cap → ∃ (cs : List Value) (n : Nat) (y : DataW H × List MemPlace), cs.length = P.cellsOf e ∧
      (∀ j, j < P.cellsOf e → w.cell? ⟨b, off + i * P.cellsOf e + j, none⟩ = cs[j]?) ∧ DataW.trod enc P w 0 (fun _ => true) true n e cs = some y) := by
  obtain ⟨fuel, hf⟩ := h
  rcases Go.Deep.open_slice ht hf with ⟨hcs, _⟩ | ⟨x, l, c, m, n, D, Pl, hcs, _, hl, hm, hmm, _, hi⟩
  · simp [Value.cells] at hcs
    obtain ⟨rfl, rfl, rfl⟩ := hcs
    exact ⟨Nat.le_refl _, Nat.zero_le _, fun h => absurd h (by omega)⟩
  · simp [Value.cells] at hcs
    obtain ⟨rfl, rfl, rfl⟩ := hcs
    have hm' : m = cap := by simpa using hmm
    subst hm'
    refine ⟨hl, hm, fun hn => ?_⟩
    have hx : x = ⟨x.block, x.off, none⟩ := by
      obtain ⟨cs, hc, _⟩ := hi 0 (by omega)
      obtain ⟨_, hcl, hat⟩ := World.cells?_some hc
      have h0 := hat 0 hsz
      rw [Nat.zero_mul, Addr.add_zero', Addr.add_zero', List.getElem?_eq_getElem (by omega)] at h0
      exact plain_of_cell h0
    refine ⟨x.block, x.off, congrArg some hx, fun i hil => ?_⟩
    obtain ⟨cs, hc, ht'⟩ := hi i (by omega)
    obtain ⟨_, hcl, hat⟩ := World.cells?_some hc
    refine ⟨cs, n, _, hcl, fun j hj => ?_, ht'⟩
    have h1 := hat j hj
    rw [Go.Deep.add_add, hx, add_plain] at h1
    rw [Nat.add_assoc]
    exact h1

/-- Elements that are structs of one-cell fields: each field's cell and its reading. -/
theorem open_fields {t e : TypeId} {fs : Array Field} {a : Option Addr} {len cap : Nat} {d : DataW H} {p : List MemPlace} (ht : P.underlying t = some (.slice e)) (he : P.underlying e = some (.struct fs))
    (hone : Go.Deep.oneCellFields P fs = true) (hC : P.cellsOf e = fs.size) (hsz : 0 < fs.size) (h : DataW.Trod enc P w 0 (fun _ => true) true t (.slice a len cap) d p) :
    len ≤ cap ∧ cap ≤ maxLen ∧ (0 < cap → ∃ b off, a = some ⟨b, off, none⟩ ∧ ∀ i, i < cap → ∀ (j : Nat) (f : Field), fs[j]? = some f →
      ∃ (v : Value) (n : Nat) (y : DataW H × List MemPlace), w.cell? ⟨b, off + i * fs.size + j, none⟩ = some v ∧ DataW.trod enc P w 0 (fun _ => true) true n f.type [v] = some y) := by
  obtain ⟨h1, h2, h3⟩ := open_elems ht (by omega) h
  refine ⟨h1, h2, fun hn => ?_⟩
  obtain ⟨b, off, ha, hi⟩ := h3 hn
  refine ⟨b, off, ha, fun i hil j f hj => ?_⟩
  obtain ⟨cs, n, y, hcl, hat, htr⟩ := hi i hil
  obtain ⟨xs, m, _, _, _, hxl, hf⟩ := DataW.trod_struct he htr
  obtain ⟨ho, hk⟩ := Go.Deep.hone_of hone j f hj
  have hjl : j < fs.size := (Array.getElem?_eq_some_iff.1 hj).1
  have hv : cs[j]? = some (cs[j]'(by omega)) := List.getElem?_eq_getElem (by omega)
  have h4 := hf j f hj
  rw [ho, hk, List.drop_eq_getElem_cons (by omega), List.take_succ_cons, List.take_zero, List.getElem?_eq_getElem (by omega)] at h4
  rw [hC] at hat
  exact ⟨_, m, _, (hat j hjl).trans hv, h4⟩

/-- One-cell fields, as values. -/
theorem cell_i64 {f : TypeId} {v : Value} {n : Nat} {y : DataW H × List MemPlace} (hf : P.underlying f = some (.int .i64)) (h : DataW.trod enc P w 0 (fun _ => true) true n f [v] = some y) :
    ∃ z : Int, v = .int .i64 z ∧ -9223372036854775808 ≤ z ∧ z ≤ 9223372036854775807 := by
  obtain ⟨z, h1, _, h2⟩ := DataW.trod_int hf h
  exact ⟨z, by simpa using h1, wf_i64 h2⟩
theorem cell_string {f : TypeId} {v : Value} {n : Nat} {y : DataW H × List MemPlace} (hf : P.underlying f = some .string) (h : DataW.trod enc P w 0 (fun _ => true) true n f [v] = some y) :
    ∃ s : ByteArray, v = .string s ∧ s.size ≤ maxLen := by
  obtain ⟨s, h1, _, h2⟩ := DataW.trod_string hf h
  exact ⟨s, by simpa using h1, h2⟩
end
end Go.Proofs.YtdibkgjldmepcaaDoor.Mem
