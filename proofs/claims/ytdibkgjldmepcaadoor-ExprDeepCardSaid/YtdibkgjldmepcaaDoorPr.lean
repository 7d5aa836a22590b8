/- expr.shaped. -/
import Derived.Test.YtdibkgjldmepcaaDoorPw
namespace Go.Proofs.YtdibkgjldmepcaaDoor.Xp
open Go.RowKit Mem Lex Gen
set_option linter.unusedVariables false
set_option linter.unusedSimpArgs false

def opnds (l : Int) : Int := if l = 7 then 0 else if l = 6 then 1 else 2
theorem operands_c (l : Int) (w : World) : Calls Tryd.prog 54 #[.int .i64 l] w fun e w' => e = .returned (.int .i64 (opnds l)) ∧ w' = w := by
  unfold opnds
  by_cases h7 : l = 7
  · subst h7
    go_enter Tryd.func54, Tryd.ntmps54
    go_wp2_with fail
    go_ret
    exact ⟨rfl, rfl⟩
  · have e7 : (l == 7) = false := by rw [beq_eq_false_iff_ne]; exact h7
    rw [if_neg h7]
    by_cases h6 : l = 6
    · subst h6
      go_enter Tryd.func54, Tryd.ntmps54
      go_wp2_with fail
      go_ret
      exact ⟨rfl, rfl⟩
    · have e6 : (l == 6) = false := by rw [beq_eq_false_iff_ne]; exact h6
      rw [if_neg h6]
      go_enter Tryd.func54, Tryd.ntmps54
      go_wp2_with fail
      go_ret
      exact ⟨rfl, rfl⟩
/-- Has it the fields that its kind has? -/
def shapeB (k n : Int) (s : Bytes) (m : Nat) : Bool :=
  if (m : Int) ≠ opnds (lev k) then false else if k = 1 then decide (0 ≤ n) && decide (s = []) else if k = 2 ∨ k = 4 then decide (n = 0) && nameB s else decide (wordX k n s ≠ []) && decide (n = 0) && decide (s = [])
theorem empty_mk {s : Bytes} : (mk s).toList.isEmpty = decide (s = []) := by
  rw [toList_bs]
  show s.isEmpty = _
  cases s <;> rfl
theorem beq_empty {s : Bytes} : ((mk s).toList == ([] : List UInt8)) = decide (s = []) := by
  rw [toList_bs]
  show (s == []) = _
  cases s <;> rfl
set_option maxHeartbeats 4000000 in
theorem shaped_c (k n p : Int) (s : Bytes) (a : Option Addr) (m c : Nat) (w : World) (hv : Vars w) (h0 : -9223372036854775808 ≤ n) (h1 : n ≤ 9223372036854775807) (hs : s.length ≤ 1000000) (hm : m ≤ c ∧ c ≤ maxLen) :
    Calls Tryd.prog 36 #[.agg #[.int .i64 k, .int .i64 n, .string (mk s), .slice a m c, .int .i64 p]] w fun e w' => e = .returned (.bool (shapeB k n s m)) ∧ Foot (fun _ => False) w w' := by
  have hA := At.new w 24 #[.int .i64 k, .int .i64 n, .string (mk s), .slice a m c, .int .i64 p]
  have HF := Lib.hid ((Foot.refl (fun _ => False) w).alloc (.cells #[.int .i64 k, .int .i64 n, .string (mk s), .slice a m c, .int .i64 p] 24))
  have HV := Lib.hid (hv.keep HF.out)
  have LV := fun W => xlevel_c k W
  have OP := fun W => operands_c (lev k) W
  have WD := fun W hW => word_c k n p s a m c W hW h0 h1 hs
  have NM := fun W => name_c (mk s) W (by rw [mk_size]; omega)
  rw [bs_mk] at NM
  have hE := empty_mk (s := s)
  have hE2 := beq_empty (s := s)
  generalize hW1 : w.alloc (.cells #[.int .i64 k, .int .i64 n, .string (mk s), .slice a m c, .int .i64 p] 24) = W1 at *
  obtain ⟨c0, c1, c2, c3, c4⟩ := cells5 hA
  clear hA hv h0 h1 hs
  unfold shapeB
  by_cases hop : (m : Int) = opnds (lev k)
  · rw [if_neg (by omega)]
    have hne : ((m : Int) != opnds (lev k)) = false := by rw [bne_eq_false_iff_eq]; exact hop
    by_cases g1 : k = 1
    · have b1 : (k == 1) = true := by rw [g1]; rfl
      simp only [if_pos g1]
      clear g1
      by_cases hn : 0 ≤ n
      · rw [decide_eq_true hn, Bool.true_and]
        go_enter Tryd.func36, Tryd.ntmps36
        go_wp2_with fail
        go_quiet (first | (go_at_call 37; with_reducible refine (LV _).mono ?_; rintro e w'' ⟨he, rfl⟩; exact ⟨he, _, rfl⟩) | (go_at_call 54; with_reducible refine (OP _).mono ?_; rintro e w'' ⟨he, rfl⟩; exact ⟨he, _, rfl⟩))
        go_wp2_with fail
        go_ret
        first | exact ⟨rfl, HF.out.drewN _⟩ | (subst hW1; exact ⟨rfl, HF.out.drewN _⟩)

      · rw [decide_eq_false hn, Bool.false_and]
        go_enter Tryd.func36, Tryd.ntmps36
        go_wp2_with fail
        go_quiet (first | (go_at_call 37; with_reducible refine (LV _).mono ?_; rintro e w'' ⟨he, rfl⟩; exact ⟨he, _, rfl⟩) | (go_at_call 54; with_reducible refine (OP _).mono ?_; rintro e w'' ⟨he, rfl⟩; exact ⟨he, _, rfl⟩))
        go_wp2_with fail
        go_ret
        first | exact ⟨rfl, HF.out.drewN _⟩ | (subst hW1; exact ⟨rfl, HF.out.drewN _⟩)

    · have b1 : (k == 1) = false := by rw [beq_eq_false_iff_ne]; exact g1
      by_cases g2 : k = 2 ∨ k = 4
      · simp only [if_neg g1, if_pos g2]
        have b2 : ((k == 2) = true) ∨ ((k == 2) = false ∧ (k == 4) = true) := by
          rcases g2 with rfl | rfl
          · exact .inl rfl
          · exact .inr ⟨rfl, rfl⟩
        clear g1 g2
        by_cases hn : n = 0
        · have hn0 : (n == 0) = true := by rw [hn]; rfl
          rw [decide_eq_true hn, Bool.true_and]
          clear hn
          rcases b2 with b2 | ⟨b2, b4⟩
          · go_enter Tryd.func36, Tryd.ntmps36
            go_wp2_with fail
            go_quiet (first | (go_at_call 37; with_reducible refine (LV _).mono ?_; rintro e w'' ⟨he, rfl⟩; exact ⟨he, _, rfl⟩) | (go_at_call 54; with_reducible refine (OP _).mono ?_; rintro e w'' ⟨he, rfl⟩; exact ⟨he, _, rfl⟩))
            go_wp2_with (go_at_call 55; refine (NM _).mono ?_; rintro e w' ⟨rfl, rfl⟩)
            go_ret
            first | exact ⟨rfl, HF.out.drewN _⟩ | (subst hW1; exact ⟨rfl, HF.out.drewN _⟩)

          · go_enter Tryd.func36, Tryd.ntmps36
            go_wp2_with fail
            go_quiet (first | (go_at_call 37; with_reducible refine (LV _).mono ?_; rintro e w'' ⟨he, rfl⟩; exact ⟨he, _, rfl⟩) | (go_at_call 54; with_reducible refine (OP _).mono ?_; rintro e w'' ⟨he, rfl⟩; exact ⟨he, _, rfl⟩))
            go_wp2_with (go_at_call 55; refine (NM _).mono ?_; rintro e w' ⟨rfl, rfl⟩)
            go_ret
            first | exact ⟨rfl, HF.out.drewN _⟩ | (subst hW1; exact ⟨rfl, HF.out.drewN _⟩)

        · have hn0 : (n == 0) = false := by rw [beq_eq_false_iff_ne]; exact hn
          rw [decide_eq_false hn, Bool.false_and]
          rcases b2 with b2 | ⟨b2, b4⟩
          · go_enter Tryd.func36, Tryd.ntmps36
            go_wp2_with fail
            go_quiet (first | (go_at_call 37; with_reducible refine (LV _).mono ?_; rintro e w'' ⟨he, rfl⟩; exact ⟨he, _, rfl⟩) | (go_at_call 54; with_reducible refine (OP _).mono ?_; rintro e w'' ⟨he, rfl⟩; exact ⟨he, _, rfl⟩))
            go_wp2_with fail
            go_ret
            first | exact ⟨rfl, HF.out.drewN _⟩ | (subst hW1; exact ⟨rfl, HF.out.drewN _⟩)

          · go_enter Tryd.func36, Tryd.ntmps36
            go_wp2_with fail
            go_quiet (first | (go_at_call 37; with_reducible refine (LV _).mono ?_; rintro e w'' ⟨he, rfl⟩; exact ⟨he, _, rfl⟩) | (go_at_call 54; with_reducible refine (OP _).mono ?_; rintro e w'' ⟨he, rfl⟩; exact ⟨he, _, rfl⟩))
            go_wp2_with fail
            go_ret
            first | exact ⟨rfl, HF.out.drewN _⟩ | (subst hW1; exact ⟨rfl, HF.out.drewN _⟩)

      · simp only [if_neg g1, if_neg g2]
        have b2 : (k == 2) = false := by rw [beq_eq_false_iff_ne]; omega
        have b4 : (k == 4) = false := by rw [beq_eq_false_iff_ne]; omega
        have hEw := empty_mk (s := wordX k n s)
        have hEw2 := beq_empty (s := wordX k n s)
        generalize wordX k n s = wx at *
        clear g1 g2
        by_cases hwx : wx = []
        · rw [show decide (wx ≠ []) = false by simp [hwx], Bool.false_and, Bool.false_and]
          rw [decide_eq_true hwx] at hEw hEw2
          clear hwx
          go_enter Tryd.func36, Tryd.ntmps36
          go_wp2_with fail
          go_quiet (first | (go_at_call 37; with_reducible refine (LV _).mono ?_; rintro e w'' ⟨he, rfl⟩; exact ⟨he, _, rfl⟩) | (go_at_call 54; with_reducible refine (OP _).mono ?_; rintro e w'' ⟨he, rfl⟩; exact ⟨he, _, rfl⟩))
          go_wp2_with fail
          refine (WD _ (HV.out.keep ((Foot.refl (fun _ => False) W1).drewN nq))).mono ?_
          rintro e w1 ⟨rfl, hf⟩
          go_wp2_with fail
          go_ret
          exact ⟨rfl, (HF.out.drewN nq).trans hf fun _ _ h => h⟩

        · rw [show decide (wx ≠ []) = true by simp [hwx], Bool.true_and]
          rw [decide_eq_false hwx] at hEw hEw2
          clear hwx
          have hk2 := hold ((Foot.refl (fun _ => False) W1)) c1
          by_cases hn : n = 0
          · have hn0 : (n == 0) = true := by rw [hn]; rfl
            rw [decide_eq_true hn, Bool.true_and]
            clear hn
            go_enter Tryd.func36, Tryd.ntmps36
            go_wp2_with fail
            go_quiet (first | (go_at_call 37; with_reducible refine (LV _).mono ?_; rintro e w'' ⟨he, rfl⟩; exact ⟨he, _, rfl⟩) | (go_at_call 54; with_reducible refine (OP _).mono ?_; rintro e w'' ⟨he, rfl⟩; exact ⟨he, _, rfl⟩))
            go_wp2_with fail
            refine (WD _ (HV.out.keep ((Foot.refl (fun _ => False) W1).drewN nq))).mono ?_
            rintro e w1 ⟨rfl, hf⟩
            have hf1 := ((Foot.refl (fun _ => False) W1).drewN nq).trans hf fun _ _ h => h
            have d1 := hold hf1 c1
            have d2 := hold hf1 c2
            go_wp2_with fail
            go_ret
            exact ⟨rfl, (HF.out.drewN nq).trans hf fun _ _ h => h⟩

          · have hn0 : (n == 0) = false := by rw [beq_eq_false_iff_ne]; exact hn
            rw [decide_eq_false hn, Bool.false_and]
            clear hn
            go_enter Tryd.func36, Tryd.ntmps36
            go_wp2_with fail
            go_quiet (first | (go_at_call 37; with_reducible refine (LV _).mono ?_; rintro e w'' ⟨he, rfl⟩; exact ⟨he, _, rfl⟩) | (go_at_call 54; with_reducible refine (OP _).mono ?_; rintro e w'' ⟨he, rfl⟩; exact ⟨he, _, rfl⟩))
            go_wp2_with fail
            refine (WD _ (HV.out.keep ((Foot.refl (fun _ => False) W1).drewN nq))).mono ?_
            rintro e w1 ⟨rfl, hf⟩
            have hf1 := ((Foot.refl (fun _ => False) W1).drewN nq).trans hf fun _ _ h => h
            have d1 := hold hf1 c1
            have d2 := hold hf1 c2
            go_wp2_with fail
            go_ret
            exact ⟨rfl, (HF.out.drewN nq).trans hf fun _ _ h => h⟩

  · rw [if_pos hop]
    have hne : ((m : Int) != opnds (lev k)) = true := by rw [bne_iff_ne]; exact hop
    clear hop
    go_enter Tryd.func36, Tryd.ntmps36
    go_wp2_with fail
    go_quiet (first | (go_at_call 37; with_reducible refine (LV _).mono ?_; rintro e w'' ⟨he, rfl⟩; exact ⟨he, _, rfl⟩) | (go_at_call 54; with_reducible refine (OP _).mono ?_; rintro e w'' ⟨he, rfl⟩; exact ⟨he, _, rfl⟩))
    go_wp2_with fail
    go_ret
    first | exact ⟨rfl, HF.out.drewN _⟩ | (subst hW1; exact ⟨rfl, HF.out.drewN _⟩)

end Go.Proofs.YtdibkgjldmepcaaDoor.Xp
