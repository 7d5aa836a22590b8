/- The variables of strconv as the rows' condition lays them. -/
import Derived.Test.YtdibkgjldmepcaaDoorLexB
import Derived.LaidMore
import Derived.LaidSub
import Derived.MakeChecks
import Derived.OpenShut
import Derived.Stop.Joined
import Derived.Stop.LaidErr
import Derived.Lib.LaidTab
namespace Go.Proofs.YtdibkgjldmepcaaDoor.Lex
open Go.RowKit Mem

/-- What the rows list. -/
def listed : List (String × DataW Unit) := Rows.exprRightsRow.laid
/-- The door's own heap meets the condition. -/
theorem door_met (os : Os) (args : Array Value) : laidMetH Tryd.prog listed ((World.doorLaid Tryd.prog 400 os).forCall (fun _ _ => 0) ⟨#[], args, []⟩).memory :=
  laidMetH_of_parts3 (fuel := 8) (laidMet_of_run' 8 (by kernel_rfl) (by kernel_rfl)) (by kernel_rfl) (by kernel_rfl)

theorem only {W : World} (h : laidMetH Tryd.prog listed W) (n : String) (d : DataW Unit) (hf : (listed.filter fun x => x.1 == n) = [(n, d)]) (hd : d.handleName?.isNone = true) : laidMet Tryd.prog [(n, d)] W := by
  have h1 := laidMetH.filter (fun x => x.1 == n) h
  rw [hf, MakeChecks.laidMetH_plain _ _ _ (by simp [hd])] at h1
  exact h1
theorem of_laid {W : World} (h : laidMetH Tryd.prog listed W) : Vars W := by
  refine ⟨?_, ?_⟩
  · have h1 := only h vRng Rows.laid_strconv_ErrRange (by kernel_rfl) (by kernel_rfl)
    obtain ⟨a, s, hv, _⟩ := laid_sentinel (g := 3) h1 (by kernel_rfl) (by kernel_rfl) Tryd.underlying82 (by
      intro u hu
      exact typeName_ptr_named (nm := "errors.errorString") (by kernel_rfl) (by kernel_rfl) (by decide) u (hu.trans (congrArg some (by decide)))) Tryd.underlying138 Tryd.underlying140 rfl rfl Tryd.underlying9 (by kernel_rfl) (by kernel_rfl)
    exact ⟨_, _, hv⟩
  · have h1 := only h vTab (Go.Lib.tabData .u64 Go.Lib.pow10Tab) (by kernel_rfl) (by kernel_rfl)
    exact Go.Lib.tabIs_of_head (g := 0) (by kernel_rfl) (by kernel_rfl) Tryd.underlying128 Tryd.underlying114 (by kernel_rfl) (by kernel_rfl) h1
end Go.Proofs.YtdibkgjldmepcaaDoor.Lex
