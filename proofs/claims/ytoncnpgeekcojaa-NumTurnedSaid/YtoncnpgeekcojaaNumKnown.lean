/- The chapter's examples, which each law of package cotillionlaw1 asks besides: they hold; three cells are made for the arguments of Most. -/
import Derived.Test.YtoncnpgeekcojaaNum
namespace Go.Proofs.Ytoncnpgeekcojaa.Num
open Go.RowKit NumM

theorem known (w : World) :
    Calls Try.prog 20 #[] w fun e w' => e = .returned (.bool true) ∧ w.alloc (Obj.cells #[.int .i64 2, .int .i64 9, .int .i64 4] 2) = w' := by
  go_enter Try.func20, Try.ntmps20
  go_wp2_with fail
  refine (Div_in (-7) 2 _ (by omega) (by omega) (by omega)).mono ?_
  rintro e w1 ⟨rfl, rfl⟩
  go_wp2_with fail
  refine (Mod_in (-7) 2 _ (by omega)).mono ?_
  rintro e w1 ⟨rfl, rfl⟩
  go_wp2_with fail
  refine (Div_over _).mono ?_
  rintro e w1 ⟨rfl, rfl⟩
  go_wp2_with fail
  refine (Mod_in (-9223372036854775808) (-1) _ (by omega)).mono ?_
  rintro e w1 ⟨rfl, rfl⟩
  go_wp2_with fail
  refine (Parts_in 7 3 _ (by omega) (by omega) (by omega)).mono ?_
  rintro e w1 ⟨rfl, rfl⟩
  go_wp2_with fail
  have hr : Row (w.alloc (Obj.cells #[.int .i64 2, .int .i64 9, .int .i64 4] 2)) w.heap.size 0 (2 + 1) [2, 9, 4] := by
    refine ⟨rfl, by omega, ?_, ?_⟩
    · intro j hj
      match j, hj with
      | 0, _ => simp
      | 1, _ => simp
      | 2, _ => simp
    · intro z hz
      simp at hz
      omega
  refine (Most_any w.heap.size 0 2 3 [2, 9, 4] _ hr (by omega)).mono ?_
  rintro e w1 ⟨rfl, rfl⟩
  clear hr
  rw [show mostG ([2, 9, 4].getD 0 0) ([2, 9, 4].drop 1) = (9 : Int) from by decide]
  go_wp2_with fail
  go_ret
  exact ⟨rfl, rfl⟩
end Go.Proofs.Ytoncnpgeekcojaa.Num
