/- What All answers of digits, with a nought ahead or not, and of one more than the greatest number. -/
import Derived.Test.YthcifjehglgicaaDoorLexG
namespace Go.Proofs.YthcifjehglgicaaDoor.Lex
open Go.RowKit Mem
set_option linter.unusedVariables false

theorem out_zero (k : Nat) (h : k ≤ 9223372036854775807) : outcome (bs (⟨#[48]⟩ ++ zS k)) = ([], 11, 0) := by
  obtain ⟨h1, h2, _⟩ := dgs_all k k (Nat.le_refl _)
  have hl := dgs_len 19 k (by omega) (by omega)
  have hp := List.length_pos_iff.2 h2
  have hb : bs (⟨#[48]⟩ ++ zS k) = 48 :: dgs k := by rw [bs_append]; rfl
  rw [hb, outcome_digits (b := 48) (r := dgs k) rfl (by
    intro c hc
    rcases List.mem_cons.1 hc with rfl | hc
    · decide
    · exact h1 c hc) (by simp; omega), if_pos ⟨by simp; omega, rfl⟩]
theorem out_plain (k : Nat) (h : k ≤ 9223372036854775807) : outcome (bs (zS k)) = ([⟨2, 0, (dgs k).length, dgs k, k⟩, endTok (dgs k).length], 0, 0) := by
  obtain ⟨h1, h2, h3, b, r, h4, h5, h6⟩ := dgs_all k k (Nat.le_refl _)
  have hl := dgs_len 19 k (by omega) (by omega)
  have hb : bs (zS k) = dgs k := rfl
  have hv : valN (dgs k) = some k := by unfold valN; rw [h3, if_pos h]
  rw [hb, outcome_digits h4 h1 (by omega), if_neg, hv]
  rintro ⟨h7, h8⟩
  by_cases h9 : k < 10
  · rw [dgs_lt h9] at h7; simp at h7
  · exact h5 (by omega) h8
theorem out_great : outcome (bs ⟨#[57, 50, 50, 51, 51, 55, 50, 48, 51, 54, 56, 53, 52, 55, 55, 53, 56, 48, 56]⟩) = ([], 16, 0) := by
  rw [show bs ⟨#[57, 50, 50, 51, 51, 55, 50, 48, 51, 54, 56, 53, 52, 55, 55, 53, 56, 48, 56]⟩ = [57, 50, 50, 51, 51, 55, 50, 48, 51, 54, 56, 53, 52, 55, 55, 53, 56, 48, 56] from rfl]
  rw [outcome_digits (b := 57) (r := [50, 50, 51, 51, 55, 50, 48, 51, 54, 56, 53, 52, 55, 55, 53, 56, 48, 56]) rfl (by decide) (by decide), if_neg (by decide)]
  rfl

set_option maxHeartbeats 1000000 in
theorem numbers (a0 : Int) (k : Nat) (a1 : Bool) (w : World) (hk : (0 ≤ a0 ∧ a0 = k) ∨ (a0 < 0 ∧ -(a0 + 1) = k)) (hmax : k ≤ 9223372036854775807) (hv : Vars w) :
    Calls Tryd.prog 8 #[.int .i64 a0, .bool a1] w fun e w' => e = .returned (.bool true) ∧ Foot (fun _ => False) w w' := by
  have D := fun W => digits_c (k + 1) k W (by omega) hmax
  have hz := zS_size hmax
  have hzl : ¬ 9223372036854775807 < 1 + (zS k).size := by omega
  have hs0 : (⟨#[48]⟩ ++ zS k : ByteArray).size ≤ 9223372036854775807 := by
    have h1 : (bs (⟨#[48]⟩ ++ zS k)).length = (⟨#[48]⟩ ++ zS k : ByteArray).size := bs_len _
    have h2 : (bs (zS k)).length = (zS k).size := bs_len _
    rw [bs_append, List.length_append, h2] at h1
    have h3 : (bs ⟨#[48]⟩).length = 1 := rfl
    omega
  have C0 := fun W hW => All_c (⟨#[48]⟩ ++ zS k) W hs0 hW
  have C1 := fun W hW => All_c (zS k) W (by omega) hW
  have C2 := fun W hW => All_c ⟨#[57, 50, 50, 51, 51, 55, 50, 48, 51, 54, 56, 53, 52, 55, 55, 53, 56, 48, 56]⟩ W (by decide) hW
  have O0 := Lib.hid (out_zero k hmax)
  have O1 := Lib.hid (out_plain k hmax)
  have O2 := Lib.hid out_great
  have HV := Lib.hid hv
  clear hv hs0
  rcases hk with ⟨hk1, rfl⟩ | ⟨hk1, hk2⟩
  · cases a1 with
    | false =>
      go_enter Tryd.func8, Tryd.ntmps8
      go_wp2_with fail
      refine (D _).mono ?_
      rintro e w0 ⟨rfl, d, rfl⟩
      have HF0 := Lib.hid ((Foot.refl (fun _ => False) w).drewN d)
      go_wp2_with fail
      refine (C1 _ (HV.out.keep HF0.out)).mono ?_
      rintro e w1 ⟨hf, a, c, rfl, hi⟩
      rw [O1.out] at hi ⊢
      simp only [List.length_cons, List.length_nil] at hi ⊢
      have hfa := hf.alloc (.cells #[.int .i64 0, .int .i64 0] 26)
      have HF1 := Lib.hid (HF0.out.trans hfa fun _ _ h => h)
      have HI1 := Lib.hid (hi.alloc (.cells #[.int .i64 0, .int .i64 0] 26))
      have HA1 := Lib.hid (At.new w1 26 #[.int .i64 0, .int .i64 0])
      clear hi hf hfa C0 C1 HF0
      go_wp2_with fail
      generalize w1.alloc (.cells #[.int .i64 0, .int .i64 0] 26) = W1 at *
      refine (C2 _ (HV.out.keep HF1.out)).mono ?_
      rintro e w2 ⟨hf, a2, c2, rfl, _⟩
      rw [O2.out]
      have hfa := hf.alloc (.cells #[.int .i64 16, .int .i64 0] 26)
      have HF2 := Lib.hid (HF1.out.trans hfa fun _ _ h => h)
      have HA2 : Hid (At _ w2.heap.size 26 #[.int .i64 16, .int .i64 0]) := Lib.hid (At.new w2 26 #[.int .i64 16, .int .i64 0])
      have HA3 := Lib.hid (HA1.out.keep hfa id)
      have HI3 := Lib.hid (HI1.out.keep hfa fun _ _ => id)
      have p0 : (w2.alloc (.cells #[.int .i64 16, .int .i64 0] 26)).cell? ⟨w1.heap.size, 0, none⟩ = some (.int .i64 0) := HA3.out.cell 0
      have p1 : (w2.alloc (.cells #[.int .i64 16, .int .i64 0] 26)).cell? ⟨w1.heap.size, 1, none⟩ = some (.int .i64 0) := HA3.out.cell 1
      have p2 : (w2.alloc (.cells #[.int .i64 16, .int .i64 0] 26)).cell? ⟨w2.heap.size, 0, none⟩ = some (.int .i64 16) := HA2.out.cell 0
      obtain ⟨g, off, rfl, q0, q1, q2, q3, q4⟩ := tok_cells HI3.out rfl (k := 0) (by decide)
      rw [Nat.zero_mul, Nat.add_zero] at q0 q1 q2 q3 q4
      clear hf hfa C2 HF1 HA1 HI1 HA2 HA3 HI3
      go_wp2_with fail
      refine (known _ (HV.out.keep HF2.out)).mono ?_
      rintro e w4 ⟨rfl, hf⟩
      have HF := Lib.hid (HF2.out.trans hf fun _ _ h => h)
      clear hf HF2
      go_wp2_with fail
      go_ret
      exact ⟨rfl, HF.out⟩
    | true =>
      go_enter Tryd.func8, Tryd.ntmps8
      go_wp2_with fail
      refine (D _).mono ?_
      rintro e w0 ⟨rfl, d, rfl⟩
      have HF0 := Lib.hid ((Foot.refl (fun _ => False) w).drewN d)
      go_wp2_with fail
      refine (C0 _ (HV.out.keep HF0.out)).mono ?_
      rintro e w1 ⟨hf, a, c, rfl, hi⟩
      rw [O0.out] at hi ⊢
      have hfa := hf.alloc (.cells #[.int .i64 11, .int .i64 0] 26)
      have HF1 := Lib.hid (HF0.out.trans hfa fun _ _ h => h)
      have HI1 := Lib.hid (hi.alloc (.cells #[.int .i64 11, .int .i64 0] 26))
      have HA1 := Lib.hid (At.new w1 26 #[.int .i64 11, .int .i64 0])
      clear hi hf hfa C0 C1 HF0
      go_wp2_with fail
      generalize w1.alloc (.cells #[.int .i64 11, .int .i64 0] 26) = W1 at *
      refine (C2 _ (HV.out.keep HF1.out)).mono ?_
      rintro e w2 ⟨hf, a2, c2, rfl, _⟩
      rw [O2.out]
      have hfa := hf.alloc (.cells #[.int .i64 16, .int .i64 0] 26)
      have HF2 := Lib.hid (HF1.out.trans hfa fun _ _ h => h)
      have HA2 : Hid (At _ w2.heap.size 26 #[.int .i64 16, .int .i64 0]) := Lib.hid (At.new w2 26 #[.int .i64 16, .int .i64 0])
      have HA3 := Lib.hid (HA1.out.keep hfa id)
      have HI3 := Lib.hid (HI1.out.keep hfa fun _ _ => id)
      have p0 : (w2.alloc (.cells #[.int .i64 16, .int .i64 0] 26)).cell? ⟨w1.heap.size, 0, none⟩ = some (.int .i64 11) := HA3.out.cell 0
      have p1 : (w2.alloc (.cells #[.int .i64 16, .int .i64 0] 26)).cell? ⟨w1.heap.size, 1, none⟩ = some (.int .i64 0) := HA3.out.cell 1
      have p2 : (w2.alloc (.cells #[.int .i64 16, .int .i64 0] 26)).cell? ⟨w2.heap.size, 0, none⟩ = some (.int .i64 16) := HA2.out.cell 0
      clear hf hfa C2 HF1 HA1 HI1 HA2 HA3 HI3
      go_wp2_with fail
      refine (known _ (HV.out.keep HF2.out)).mono ?_
      rintro e w4 ⟨rfl, hf⟩
      have HF := Lib.hid (HF2.out.trans hf fun _ _ h => h)
      clear hf HF2
      go_wp2_with fail
      go_ret
      exact ⟨rfl, HF.out⟩
  · cases a1 with
    | false =>
      go_enter Tryd.func8, Tryd.ntmps8
      go_wp2_with fail
      refine (D _).mono ?_
      rintro e w0 ⟨rfl, d, rfl⟩
      have HF0 := Lib.hid ((Foot.refl (fun _ => False) w).drewN d)
      go_wp2_with fail
      refine (C1 _ (HV.out.keep HF0.out)).mono ?_
      rintro e w1 ⟨hf, a, c, rfl, hi⟩
      rw [O1.out] at hi ⊢
      simp only [List.length_cons, List.length_nil] at hi ⊢
      have hfa := hf.alloc (.cells #[.int .i64 0, .int .i64 0] 26)
      have HF1 := Lib.hid (HF0.out.trans hfa fun _ _ h => h)
      have HI1 := Lib.hid (hi.alloc (.cells #[.int .i64 0, .int .i64 0] 26))
      have HA1 := Lib.hid (At.new w1 26 #[.int .i64 0, .int .i64 0])
      clear hi hf hfa C0 C1 HF0
      go_wp2_with fail
      generalize w1.alloc (.cells #[.int .i64 0, .int .i64 0] 26) = W1 at *
      refine (C2 _ (HV.out.keep HF1.out)).mono ?_
      rintro e w2 ⟨hf, a2, c2, rfl, _⟩
      rw [O2.out]
      have hfa := hf.alloc (.cells #[.int .i64 16, .int .i64 0] 26)
      have HF2 := Lib.hid (HF1.out.trans hfa fun _ _ h => h)
      have HA2 : Hid (At _ w2.heap.size 26 #[.int .i64 16, .int .i64 0]) := Lib.hid (At.new w2 26 #[.int .i64 16, .int .i64 0])
      have HA3 := Lib.hid (HA1.out.keep hfa id)
      have HI3 := Lib.hid (HI1.out.keep hfa fun _ _ => id)
      have p0 : (w2.alloc (.cells #[.int .i64 16, .int .i64 0] 26)).cell? ⟨w1.heap.size, 0, none⟩ = some (.int .i64 0) := HA3.out.cell 0
      have p1 : (w2.alloc (.cells #[.int .i64 16, .int .i64 0] 26)).cell? ⟨w1.heap.size, 1, none⟩ = some (.int .i64 0) := HA3.out.cell 1
      have p2 : (w2.alloc (.cells #[.int .i64 16, .int .i64 0] 26)).cell? ⟨w2.heap.size, 0, none⟩ = some (.int .i64 16) := HA2.out.cell 0
      obtain ⟨g, off, rfl, q0, q1, q2, q3, q4⟩ := tok_cells HI3.out rfl (k := 0) (by decide)
      rw [Nat.zero_mul, Nat.add_zero] at q0 q1 q2 q3 q4
      clear hf hfa C2 HF1 HA1 HI1 HA2 HA3 HI3
      go_wp2_with fail
      refine (known _ (HV.out.keep HF2.out)).mono ?_
      rintro e w4 ⟨rfl, hf⟩
      have HF := Lib.hid (HF2.out.trans hf fun _ _ h => h)
      clear hf HF2
      go_wp2_with fail
      go_ret
      exact ⟨rfl, HF.out⟩
    | true =>
      go_enter Tryd.func8, Tryd.ntmps8
      go_wp2_with fail
      refine (D _).mono ?_
      rintro e w0 ⟨rfl, d, rfl⟩
      have HF0 := Lib.hid ((Foot.refl (fun _ => False) w).drewN d)
      go_wp2_with fail
      refine (C0 _ (HV.out.keep HF0.out)).mono ?_
      rintro e w1 ⟨hf, a, c, rfl, hi⟩
      rw [O0.out] at hi ⊢
      have hfa := hf.alloc (.cells #[.int .i64 11, .int .i64 0] 26)
      have HF1 := Lib.hid (HF0.out.trans hfa fun _ _ h => h)
      have HI1 := Lib.hid (hi.alloc (.cells #[.int .i64 11, .int .i64 0] 26))
      have HA1 := Lib.hid (At.new w1 26 #[.int .i64 11, .int .i64 0])
      clear hi hf hfa C0 C1 HF0
      go_wp2_with fail
      generalize w1.alloc (.cells #[.int .i64 11, .int .i64 0] 26) = W1 at *
      refine (C2 _ (HV.out.keep HF1.out)).mono ?_
      rintro e w2 ⟨hf, a2, c2, rfl, _⟩
      rw [O2.out]
      have hfa := hf.alloc (.cells #[.int .i64 16, .int .i64 0] 26)
      have HF2 := Lib.hid (HF1.out.trans hfa fun _ _ h => h)
      have HA2 : Hid (At _ w2.heap.size 26 #[.int .i64 16, .int .i64 0]) := Lib.hid (At.new w2 26 #[.int .i64 16, .int .i64 0])
      have HA3 := Lib.hid (HA1.out.keep hfa id)
      have HI3 := Lib.hid (HI1.out.keep hfa fun _ _ => id)
      have p0 : (w2.alloc (.cells #[.int .i64 16, .int .i64 0] 26)).cell? ⟨w1.heap.size, 0, none⟩ = some (.int .i64 11) := HA3.out.cell 0
      have p1 : (w2.alloc (.cells #[.int .i64 16, .int .i64 0] 26)).cell? ⟨w1.heap.size, 1, none⟩ = some (.int .i64 0) := HA3.out.cell 1
      have p2 : (w2.alloc (.cells #[.int .i64 16, .int .i64 0] 26)).cell? ⟨w2.heap.size, 0, none⟩ = some (.int .i64 16) := HA2.out.cell 0
      clear hf hfa C2 HF1 HA1 HI1 HA2 HA3 HI3
      go_wp2_with fail
      refine (known _ (HV.out.keep HF2.out)).mono ?_
      rintro e w4 ⟨rfl, hf⟩
      have HF := Lib.hid (HF2.out.trans hf fun _ _ h => h)
      clear hf HF2
      go_wp2_with fail
      go_ret
      exact ⟨rfl, HF.out⟩
end Go.Proofs.YthcifjehglgicaaDoor.Lex
