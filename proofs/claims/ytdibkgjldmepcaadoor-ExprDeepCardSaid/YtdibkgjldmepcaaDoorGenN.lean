/- Names: lists of them in memory, one picked; events. -/
import Derived.Test.YtdibkgjldmepcaaDoorGenQ
namespace Go.Proofs.YtdibkgjldmepcaaDoor.Gen
open Go.RowKit Mem Lex
set_option linter.unusedVariables false

/-- A slice of names. -/
structure Names (w : World) (P : Nat → Prop) (v : Value) (l : List Bytes) : Prop where
  reads : Reads w P v (.row (l.map fun s => [.str s]))
  ident : ∀ s ∈ l, Ident s
  few : l.length ≤ 1000000
theorem Names.keep {w w' : World} {P S : Nat → Prop} {v : Value} {l : List Bytes} (h : Names w P v l) (hf : Foot S w w') (hS : ∀ k, S k → ¬ P k) : Names w' P v l := ⟨h.reads.keep hf hS, h.ident, h.few⟩
theorem Names.weak {w : World} {P P' : Nat → Prop} {v : Value} {l : List Bytes} (h : Names w P v l) (hl : ∀ k, k < w.heap.size → P k → P' k) : Names w P' v l := ⟨h.reads.weak hl, h.ident, h.few⟩
theorem Names.open {w : World} {P : Nat → Prop} {v : Value} {l : List Bytes} (h : Names w P v l) : ∃ a c, v = .slice a l.length c ∧ l.length ≤ c ∧ c ≤ maxLen ∧
    ∀ (i : Nat) (s : Bytes), l[i]? = some s → ∃ g off, a = some ⟨g, off, none⟩ ∧ w.cell? ⟨g, off + i, none⟩ = some (.string (Gen.mk s)) ∧ P g ∧ g < w.heap.size := by
  have h1 := h.reads
  generalize hL : (l.map fun s => [D.str s]) = L at h1
  have hlen : L.length = l.length := by rw [← hL, List.length_map]
  cases h1 with
  | row a c sz _ cs hsz hc hb ha hcell hr =>
    rw [hlen] at hc ⊢
    refine ⟨a, c, rfl, hc.1, hc.2, fun i s hi => ?_⟩
    have hget : L[i]? = some [D.str s] := by rw [← hL, List.getElem?_map, hi]; rfl
    have hm := List.mem_of_getElem? hget
    obtain rfl : sz = 1 := (hsz _ hm).symm
    obtain ⟨g, off, rfl⟩ := ha (List.length_pos_of_mem hm)
    have h2 := hcell g off i 0 (.str s) rfl (by rw [hget]; rfl)
    have h3 := (hr i 0 (.str s) (by rw [hget]; rfl)).toStr
    rw [h3] at h2
    obtain ⟨h4, h5⟩ := hb _ rfl
    exact ⟨g, off, rfl, by simpa using h2, h4, h5⟩

set_option maxHeartbeats 1000000 in
theorem pick_c (R : Nat) (P : Nat → Prop) (v : Value) (l : List Bytes) (or : ByteArray) (w : World) (hs : Src w R) (hn : Names w P v l) (hP : ¬ P R) (hl : l ≠ []) :
    Calls Tryd.prog 32 #[.pointer (some ⟨R, 0, none⟩), v, .string or] w fun e w' => ∃ s, s ∈ l ∧ e = .returned (.string (mk s)) ∧ Src w' R ∧ Foot (fun k => k = R) w w' := by
  obtain ⟨a, c, rfl, hc1, hc2, hel⟩ := hn.open
  have hpos := List.length_pos_iff.2 hl
  have hfew := hn.few
  have NX := fun W hW => next_c R l.length W hW (by omega)
  have HS := Lib.hid hs
  have h0 : ((l.length : Int) == 0) = false := by rw [beq_eq_false_iff_ne]; omega
  have HM : Hid (∀ i : Nat, i < l.length → ∃ s, l[i]? = some s ∧ s ∈ l) := Lib.hid fun i hi => ⟨_, List.getElem?_eq_getElem hi, List.getElem_mem hi⟩
  have HEL := Lib.hid hel
  clear hn hel
  generalize l.length = n at *
  clear hs hl
  go_enter Tryd.func32, Tryd.ntmps32
  go_wp2_with fail
  refine (NX _ HS.out).mono ?_
  rintro e w1 ⟨x, rfl, hx, hs1, hf1⟩
  obtain ⟨i, rfl⟩ : ∃ i : Nat, x = i := ⟨x.toNat, by omega⟩
  have hi : i < n := by omega
  obtain ⟨s, hsi, hms⟩ := HM.out i hi
  obtain ⟨g, off, rfl, hcell, hPg, hg⟩ := HEL.out i s hsi
  have hc : w1.cell? ⟨g, off + i, none⟩ = some (.string (mk s)) := by
    rw [hf1.cell (p := ⟨g, off + i, none⟩) hg (fun e => hP (by simp only at e; rw [← e]; exact hPg))]
    exact hcell
  have HS1 := Lib.hid hs1
  have HF1 := Lib.hid hf1
  have HMS := Lib.hid hms
  clear hcell hs1 hf1 hms hsi
  go_wp2_with fail
  go_ret
  exact ⟨s, HMS.out, rfl, HS1.out, HF1.out⟩

section
variable {P : Program} {w : World} {o : Oper} {a : Act} {Q : Exit → Act → World → Prop} {ops : Array Oper} {rest : List Oper}
/-- An array that is a value, indexed. -/
theorem wpList_index (hgd : o.guard = none) (x i : Operand) (t : TypeId) (ho : o.op = .index t x i) (cs : Array Value) (u v : Value) (hx : a.eval x = .agg cs) (hi : a.eval i = u)
    (hrun : (Instr.index t (.agg cs) u).run P w = .ok v w) (hK : wpList P ops Q rest (a.put o.dst v) w) : wpList P ops Q (o :: rest) a w := by
  refine wpList_plain hgd fun K hK' => ?_
  unfold Oper.wp
  simp [execOp, ho, hx, hi, hrun, Result.andThen]
  exact hK' _ _ hK
end
def eventL : List Bytes := [[103, 111], [112, 105, 110, 103], [112, 111, 110, 103], [101, 114, 114, 111, 114], [116, 48], [98, 97, 108, 108]]
theorem event_ident : ∀ s ∈ eventL, Ident s := by
  unfold Ident
  decide
def evC : Array Value := #[.string ⟨#[103, 111]⟩, .string ⟨#[112, 105, 110, 103]⟩, .string ⟨#[112, 111, 110, 103]⟩, .string ⟨#[101, 114, 114, 111, 114]⟩, .string ⟨#[116, 48]⟩, .string ⟨#[98, 97, 108, 108]⟩, .string ⟨#[103, 111]⟩, .string ⟨#[112, 105, 110, 103]⟩]
end Go.Proofs.YtdibkgjldmepcaaDoor.Gen
