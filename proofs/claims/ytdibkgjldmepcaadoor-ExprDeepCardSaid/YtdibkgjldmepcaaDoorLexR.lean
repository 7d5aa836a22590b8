/- The reference's own pieces: letter, digit, skip, value. -/
import Derived.Test.YtdibkgjldmepcaaDoorLexD
namespace Go.Proofs.YtdibkgjldmepcaaDoor.Lex
open Go.RowKit Mem
set_option linter.unusedVariables false

theorem letter_c (b : UInt8) (w : World) : Calls Tryd.prog 58 #[.int .u8 b.toNat] w fun e w' => e = .returned (.bool (letr b)) ∧ w' = w := by
  have hb := b.toNat_lt
  unfold letr
  generalize b.toNat = n at *
  go_enter Tryd.func58, Tryd.ntmps58
  go_wp2_with fail
  all_goals go_ret
  all_goals refine ⟨congrArg (fun x => Ending.returned (Value.bool x)) ?_, rfl⟩
  all_goals (rw [Bool.eq_iff_iff]; simp; omega)
theorem digit_c (b : UInt8) (w : World) : Calls Tryd.prog 59 #[.int .u8 b.toNat] w fun e w' => e = .returned (.bool (dig b)) ∧ w' = w := by
  have hb := b.toNat_lt
  unfold dig
  generalize b.toNat = n at *
  go_enter Tryd.func59, Tryd.ntmps59
  go_wp2_with fail
  all_goals go_ret
  all_goals refine ⟨congrArg (fun x => Ending.returned (Value.bool x)) ?_, rfl⟩
  all_goals (rw [Bool.eq_iff_iff]; simp; omega)

end Go.Proofs.YtdibkgjldmepcaaDoor.Lex
