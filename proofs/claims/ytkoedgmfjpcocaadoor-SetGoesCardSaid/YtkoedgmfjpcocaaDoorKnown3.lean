/- What all the laws of sets share: few, the chapter's examples. -/
import Derived.Test.YtkoedgmfjpcocaaDoorList
namespace Go.Proofs.YtkoedgmfjpcocaaDoor.Sets
open Go.RowKit Mem Words
open Refs (ints nums Gives)
set_option linter.unusedVariables false

theorem few (a : Option Addr) (n cap : Nat) (w : World) (hn : n ≤ 9223372036854775807) :
    Calls Tryd.prog 8 #[.slice a n cap] w fun e w' => e = .returned (.bool (decide (n ≤ 300))) ∧ w = w' := by
  by_cases h : n ≤ 300
  · rw [decide_eq_true h]
    have h2 : (n : Int) ≤ 300 := by omega
    have h3 : decide ((n : Int) ≤ 300) = true := decide_eq_true h2
    go_enter Tryd.func8, Tryd.ntmps8
    go_wp2_with fail
    go_ret
    exact ⟨rfl, rfl⟩
  · rw [decide_eq_false h]
    have h2 : ¬ (n : Int) ≤ 300 := by omega
    have h3 : decide ((n : Int) ≤ 300) = false := decide_eq_false h2
    go_enter Tryd.func8, Tryd.ntmps8
    go_wp2_with fail
    go_ret
    exact ⟨rfl, rfl⟩

theorem ex1 : els (ofP [5, 3, 5, -1, 200]) = [3, 5] := by decide +kernel
theorem ex2 : Agree (notP (ofP [1, 2]) (ofP [2, 3])) (ofP [1]) := by decide +kernel

/-- Of, of a list that was just built. -/
theorem Of_built (zs : List Int) (w : World) (n : Nat) (hn : zs.length = n) (g : Nat) (h : At w g 3 (ints zs).toArray) (hz : ∀ z ∈ zs, -9223372036854775808 ≤ z ∧ z ≤ 9223372036854775807) (hle : n ≤ 9223372036854775807) :
    Calls Tryd.prog 10 #[.slice (some ⟨g, 0, none⟩) n n] w fun e w' => e = .returned (.agg #[.int .u64 (lo (ofP zs) : Nat), .int .u64 (hi (ofP zs) : Nat)]) ∧ Foot (fun _ => False) w w' := by
  subst hn
  exact Of _ _ _ zs w (At.reads h) hle hz

theorem known (w : World) (hT : Tab w) :
    Calls Tryd.prog 9 #[] w fun e w' => e = .returned (.bool true) ∧ Foot (fun _ => False) w w' := by
  have HT := Lib.hid hT; clear hT
  have hq := fun w => eqSets (notP (ofP [1, 2]) (ofP [2, 3])) (ofP [1]) w
  rw [decide_eq_true ex2] at hq
  have C1 := Lib.hid fun w g h => Of_built [5, 3, 5, -1, 200] w 5 rfl g h (by decide) (by omega)
  have C2 := Lib.hid fun w g h => Of_built [1, 2] w 2 rfl g h (by decide) (by omega)
  have C3 := Lib.hid fun w g h => Of_built [2, 3] w 2 rfl g h (by decide) (by omega)
  have C4 := Lib.hid fun w g h => Of_built [1] w 1 rfl g h (by decide) (by omega)
  have C5 := Lib.hid fun w => Not (ofP [1, 2]) (ofP [2, 3]) w
  have CL := Lib.hid fun w hT => (by have h := ListOf (ofP [5, 3, 5, -1, 200]) w hT; rwa [ex1] at h : Calls Tryd.prog 13 #[.agg #[.int .u64 (lo (ofP [5, 3, 5, -1, 200]) : Nat), .int .u64 (hi (ofP [5, 3, 5, -1, 200]) : Nat)]] w (Gives w (nums [3, 5])))
  generalize ofP [5, 3, 5, -1, 200] = p1 at *
  generalize ofP [1, 2] = p2 at *
  generalize ofP [2, 3] = p3 at *
  generalize ofP [1] = p4 at *
  go_enter Tryd.func9, Tryd.ntmps9
  go_wp2_with fail
  refine (C1.out _ _ (At.new _ _ _)).mono ?_
  rintro e w1 ⟨rfl, hF1⟩
  have F1 := Lib.hid (((Foot.refl (fun _ => False) w).alloc _).trans hF1 fun _ _ h => h); clear hF1
  go_wp2_with fail
  refine (CL.out _ (HT.out.foot F1.out id)).mono ?_
  intro e w2 hg
  obtain ⟨a2, c2, rfl, hr2, hF2⟩ := hg.of
  have F2 := Lib.hid (F1.out.trans hF2 fun _ _ h => h); clear hF2 hg
  obtain ⟨b, off, rfl, hc⟩ := hr2.2 (by decide)
  have k0 : w2.cell? ⟨b, off, none⟩ = some (.int .i64 3) := hc 0 (by decide)
  have k1 : w2.cell? ⟨b, off + 1, none⟩ = some (.int .i64 5) := hc 1 (by decide)
  have hl : (nums [3, 5]).length = 2 := rfl
  rw [hl]
  clear hc hr2 hl
  go_wp2_with fail
  refine (C2.out _ _ (At.new _ _ _)).mono ?_
  rintro e w3 ⟨rfl, hF3⟩
  have F3 := Lib.hid ((F2.out.alloc _).trans hF3 fun _ _ h => h); clear hF3
  go_wp2_with fail
  refine (C3.out _ _ (At.new _ _ _)).mono ?_
  rintro e w4 ⟨rfl, hF4⟩
  have F4 := Lib.hid ((F3.out.alloc _).trans hF4 fun _ _ h => h); clear hF4
  go_wp2_with fail
  refine (C5.out _).mono ?_
  rintro e w5 ⟨rfl, hF5⟩
  have F5 := Lib.hid (F4.out.trans hF5 fun _ _ h => h); clear hF5
  go_wp2_with fail
  refine (C4.out _ _ (At.new _ _ _)).mono ?_
  rintro e w6 ⟨rfl, hF6⟩
  have F6 := Lib.hid ((F5.out.alloc _).trans hF6 fun _ _ h => h); clear hF6
  go_wp2_with fail
  go_ret
  exact ⟨rfl, F6.out⟩
end Go.Proofs.YtkoedgmfjpcocaaDoor.Sets
