/- The reference's own pieces: letter, digit, skip, value. -/
import Derived.Test.YthcifjehglgicaaDoorLexD
namespace Go.Proofs.YthcifjehglgicaaDoor.Lex
open Go.RowKit Mem
set_option linter.unusedVariables false

theorem letter_c (b : UInt8) (w : World) : Calls Tryd.prog 29 #[.int .u8 b.toNat] w fun e w' => e = .returned (.bool (letr b)) ∧ w' = w := by
  have hb := b.toNat_lt
  unfold letr
  generalize b.toNat = n at *
  go_enter Tryd.func29, Tryd.ntmps29
  go_wp2_with fail
  all_goals go_ret
  all_goals refine ⟨congrArg (fun x => Ending.returned (Value.bool x)) ?_, rfl⟩
  all_goals (rw [Bool.eq_iff_iff]; simp; omega)
theorem digit_c (b : UInt8) (w : World) : Calls Tryd.prog 30 #[.int .u8 b.toNat] w fun e w' => e = .returned (.bool (dig b)) ∧ w' = w := by
  have hb := b.toNat_lt
  unfold dig
  generalize b.toNat = n at *
  go_enter Tryd.func30, Tryd.ntmps30
  go_wp2_with fail
  all_goals go_ret
  all_goals refine ⟨congrArg (fun x => Ending.returned (Value.bool x)) ?_, rfl⟩
  all_goals (rw [Bool.eq_iff_iff]; simp; omega)

set_option maxHeartbeats 1000000 in
theorem rskip_c (s : ByteArray) (j : Nat) (w : World) (hj : j ≤ s.size) (hs : s.size ≤ 281474976710656) :
    Calls Tryd.prog 23 #[.string s, .int .i64 j] w fun e w' => e = .returned (.int .i64 (j + skipN false ((bs s).drop j) : Nat)) ∧ w' = w := by
  go_enter Tryd.func23, Tryd.ntmps23
  go_wp2_with fail
  go_loopw [1] (fun v wr => ∃ i : Nat, v = .int .i64 i ∧ i ≤ s.size ∧ j + skipN false ((bs s).drop j) = i + skipN false ((bs s).drop i) ∧ wr = w) (fun v _ => s.size - (intOf v).toNat)
  case atStart => exact ⟨j, rfl, hj, rfl, rfl⟩
  case round =>
    obtain ⟨i, rfl, hi, he, rfl⟩ := hrel
    by_cases hlt : i < s.size
    · have hd := bs_drop hlt
      rw [hd, skip_f] at he
      have hb := s[i].toNat_lt
      by_cases h1 : s[i].toNat = 35
      · have hsp : sp s[i] = false := by unfold sp; rw [h1]; rfl
        have hnl : isNl s[i] = false := by unfold isNl; rw [h1]; rfl
        rw [hsp, if_neg (by decide), if_pos h1] at he
        have hT : j + skipN false ((bs s).drop j) = i + skipN true ((bs s).drop i) := by rw [hd, skip_t, hnl, if_neg (by decide), he]
        clear he hd hsp hnl
        go_wp2_with fail
        go_loopw [1] (fun v wq => ∃ q : Nat, v = .int .i64 q ∧ q ≤ s.size ∧ i ≤ q ∧ j + skipN false ((bs s).drop j) = q + skipN true ((bs s).drop q) ∧ wq = wr) (fun v _ => s.size - (intOf v).toNat)
        case atStart => exact ⟨i, rfl, hi, Nat.le_refl _, hT, rfl⟩
        case round =>
          obtain ⟨q, rfl, hq, hiq, hTq, rfl⟩ := hrel
          by_cases hlq : q < s.size
          · have hd := bs_drop hlq
            rw [hd, skip_t] at hTq
            by_cases h10 : s[q].toNat = 10
            · have hnl : isNl s[q] = true := by unfold isNl; rw [h10]; rfl
              have hsp : sp s[q] = true := by unfold sp; rw [h10]; rfl
              rw [if_pos hnl] at hTq
              have hT2 : j + skipN false ((bs s).drop j) = q + skipN false ((bs s).drop q) := by rw [hd, skip_f, if_pos hsp, hTq]
              have hne : i ≠ q := by
                rintro rfl
                rw [h10] at h1
                exact absurd h1 (by decide)
              have e1 : ((s[q].toNat : Int) != 10) = false := by simp [h10]
              clear hTq hd hnl hsp h10 h1 hT hb
              go_wp2_with fail
              refine ⟨⟨q, rfl, hq, hT2, trivial⟩, ?_⟩
              simp only [intOf]
              omega
            · have hnl : ¬ isNl s[q] = true := by unfold isNl; simpa using h10
              rw [if_neg hnl] at hTq
              have e1 : ((s[q].toNat : Int) != 10) = true := by rw [bne_iff_ne]; omega
              clear hd hnl h10 h1 hT hb
              go_wp2_with fail
              refine ⟨⟨q + 1, by rw [Int.natCast_add]; rfl, by omega, by omega, by omega, trivial⟩, ?_⟩
              simp only [intOf]
              omega
          · rw [bs_end hlq, skip_nil] at hTq
            have hT2 : j + skipN false ((bs s).drop j) = q + skipN false ((bs s).drop q) := by rw [bs_end hlq, skip_nil]; exact hTq
            clear hTq h1 hT hb
            go_wp2_with fail
            refine ⟨⟨q, rfl, hq, hT2, trivial⟩, ?_⟩
            simp only [intOf]
            omega
      · rw [if_neg h1] at he
        have e1 : ((s[i].toNat : Int) == 35) = false := by rw [beq_eq_false_iff_ne]; omega
        by_cases hsp : sp s[i] = true
        · rw [if_pos hsp] at he
          have hsp2 : s[i].toNat = 32 ∨ s[i].toNat = 9 ∨ s[i].toNat = 10 ∨ s[i].toNat = 13 := by unfold sp at hsp; simpa [or_assoc] using hsp
          clear hsp
          have e2 := e1
          clear e1
          rcases hsp2 with h2 | h2 | h2 | h2
          · have f0 : ((s[i].toNat : Int) == 32) = true := by simp [h2]
            clear h1 h2 hb hd
            go_wp2_with fail
            refine ⟨⟨i + 1, by rw [Int.natCast_add]; rfl, by omega, by omega, trivial⟩, ?_⟩
            simp only [intOf]
            omega
          · have f1 : ((s[i].toNat : Int) == 9) = true := by simp [h2]
            have f0 : ((s[i].toNat : Int) == 32) = false := by simp [h2]
            clear h1 h2 hb hd
            go_wp2_with fail
            refine ⟨⟨i + 1, by rw [Int.natCast_add]; rfl, by omega, by omega, trivial⟩, ?_⟩
            simp only [intOf]
            omega
          · have f2 : ((s[i].toNat : Int) == 10) = true := by simp [h2]
            have f0 : ((s[i].toNat : Int) == 32) = false := by simp [h2]
            have f1 : ((s[i].toNat : Int) == 9) = false := by simp [h2]
            clear h1 h2 hb hd
            go_wp2_with fail
            refine ⟨⟨i + 1, by rw [Int.natCast_add]; rfl, by omega, by omega, trivial⟩, ?_⟩
            simp only [intOf]
            omega
          · have f3 : ((s[i].toNat : Int) == 13) = true := by simp [h2]
            have f0 : ((s[i].toNat : Int) == 32) = false := by simp [h2]
            have f1 : ((s[i].toNat : Int) == 9) = false := by simp [h2]
            have f2 : ((s[i].toNat : Int) == 10) = false := by simp [h2]
            clear h1 h2 hb hd
            go_wp2_with fail
            refine ⟨⟨i + 1, by rw [Int.natCast_add]; rfl, by omega, by omega, trivial⟩, ?_⟩
            simp only [intOf]
            omega
        · rw [if_neg hsp] at he
          have hsp2 : ¬ (s[i].toNat = 32 ∨ s[i].toNat = 9 ∨ s[i].toNat = 10 ∨ s[i].toNat = 13) := by unfold sp at hsp; simpa [or_assoc] using hsp
          have f0 : ((s[i].toNat : Int) == 32) = false := by rw [beq_eq_false_iff_ne]; omega
          have f1 : ((s[i].toNat : Int) == 9) = false := by rw [beq_eq_false_iff_ne]; omega
          have f2 : ((s[i].toNat : Int) == 10) = false := by rw [beq_eq_false_iff_ne]; omega
          have f3 : ((s[i].toNat : Int) == 13) = false := by rw [beq_eq_false_iff_ne]; omega
          clear hsp hsp2 h1 hb hd
          go_wp2_with fail
          go_ret
          rw [he]
          exact ⟨rfl, rfl⟩
    · rw [bs_end hlt, skip_nil] at he
      go_wp2_with fail
      go_ret
      rw [he]
      exact ⟨rfl, rfl⟩
end Go.Proofs.YthcifjehglgicaaDoor.Lex
