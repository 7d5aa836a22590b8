/- The reference's token. -/
import Derived.Test.YtdibkgjldmepcaaDoorLexR2
namespace Go.Proofs.YtdibkgjldmepcaaDoor.Lex
open Go.RowKit Mem
set_option linter.unusedVariables false

def noTok' : Value := .agg #[.int .i64 0, .int .i64 0, .int .i64 0, .string ⟨#[]⟩, .int .i64 0]
theorem tok_letr {i : Nat} {l : Bytes} {b : UInt8} {r : Bytes} (hd : l = b :: r) (h1 : letr b = true) :
    tokRes i l = if 24 < span word l then (noTok, 13) else (tokAgg ⟨1, i, i + span word l, l.take (span word l), 0⟩, 0) := by
  have h2 : ¬ dig b = true := by
    intro h
    have h3 := dig_iff.1 h
    unfold letr at h1
    simp at h1
    omega
  unfold tokRes
  rw [hd]
  unfold tokN
  simp only
  rw [if_neg h2, if_pos h1]
  by_cases h3 : 24 < span word (b :: r)
  · rw [if_pos h3, if_pos h3]; rfl
  · rw [if_neg h3, if_neg h3]
theorem tok_sign {i : Nat} {l : Bytes} {b : UInt8} {r : Bytes} (hd : l = b :: r) (h1 : ¬ letr b = true) (h2 : ¬ dig b = true) :
    tokRes i l = if signLen l = 0 then (noTok, 10) else (tokAgg ⟨3, i, i + signLen l, l.take (signLen l), 0⟩, 0) := by
  unfold tokRes
  rw [hd]
  unfold tokN
  simp only
  rw [if_neg h2, if_neg h1]
  by_cases h3 : signLen (b :: r) = 0
  · rw [if_pos h3, if_pos h3]; rfl
  · rw [if_neg h3, if_neg h3]
/-- numV and okV side by side. -/
theorem num_ok {l : Bytes} {b : UInt8} {r : Bytes} (hd : l = b :: r) : numV l = if 1 < l.length ∧ b.toNat = 48 then (0, 11) else if (okV l).2 then ((okV l).1, 0) else (0, 16) := by
  unfold numV okV
  rw [show l.head?.map (·.toNat) = some b.toNat by rw [hd]; rfl]
  simp only [Option.some.injEq]
  by_cases h : 1 < l.length ∧ b.toNat = 48
  · rw [if_pos h, if_pos h]
  · rw [if_neg h, if_neg h]
    cases valN l with
    | none => simp
    | some n => simp

end Go.Proofs.YtdibkgjldmepcaaDoor.Lex
