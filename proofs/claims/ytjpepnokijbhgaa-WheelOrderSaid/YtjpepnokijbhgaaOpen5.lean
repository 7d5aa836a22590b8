/- Arguments of law 5 opened: a timer, rows of steps, rows of small numbers. -/
import Derived.Test.YtjpepnokijbhgaaOpen
import Derived.Test.YtjpepnokijbhgaaMapF
namespace Go.Proofs.Ytjpepnokijbhgaa.Whl
open Go.RowKit Mem Tim MapF
open Go.ChangeShapes Go.WideShapes
set_option linter.unusedVariables false

section
variable {H : Type} {enc : TypeId × Value → H} {w : World}
theorem openF {cs : Array Value} {d : DataW H} {p : List MemPlace} (h : DataW.Trod enc Try.prog w 0 (fun _ => true) true 31 (.agg cs) d p) : ∃ z : F, cs = #[.int .i64 z.1, .int .i64 z.2] ∧ (I64 z.1 ∧ I64 z.2) := by
  obtain ⟨fuel, hf⟩ := h
  have hc : Try.prog.cellsOf 31 = 2 := by kernel_rfl
  have hi : Try.prog.cellsOf 3 = 1 := by kernel_rfl
  obtain ⟨xs, n, _, _, hl, hxl, hx⟩ := DataW.trod_struct Try.underlying31 hf
  simp only [Value.cells] at hl hx
  rw [hc] at hl
  obtain ⟨l⟩ := cs
  match l, hl with
  | [c0, c1], _ =>
    simp only [List.size_toArray, List.length_cons, List.length_nil] at hxl
    have h0 : DataW.trod enc Try.prog w 0 (fun _ => true) true n 3 (([c0, c1].drop 0).take (Try.prog.cellsOf 3)) = xs[0]? := hx 0 _ rfl
    have h1 : DataW.trod enc Try.prog w 0 (fun _ => true) true n 3 (([c0, c1].drop 1).take (Try.prog.cellsOf 3)) = xs[1]? := hx 1 _ rfl
    rw [hi, List.getElem?_eq_getElem (by simp at hxl; omega)] at h0 h1
    obtain ⟨a, rfl, ha, hb⟩ := cell_i64 Try.underlying3 h0
    obtain ⟨b, rfl, hc', hd⟩ := cell_i64 Try.underlying3 h1
    exact ⟨(a, b), rfl, ⟨ha, hb⟩, hc', hd⟩
end
end Go.Proofs.Ytjpepnokijbhgaa.Whl
