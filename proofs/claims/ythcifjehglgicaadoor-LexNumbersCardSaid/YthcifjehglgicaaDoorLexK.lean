/- The chapter's examples (law 6's known). -/
import Derived.Test.YthcifjehglgicaaDoorLexN
namespace Go.Proofs.YthcifjehglgicaaDoor.Lex
open Go.RowKit Mem
set_option linter.unusedVariables false

theorem out1 : outcome [97, 45, 62, 49, 50, 32, 35, 32, 110, 111] = ([⟨1, 0, 1, [97], 0⟩, ⟨3, 1, 3, [45, 62], 0⟩, ⟨2, 3, 5, [49, 50], 12⟩, ⟨4, 10, 10, [], 0⟩], 0, 0) := by
  have h : lexAll [97, 45, 62, 49, 50, 32, 35, 32, 110, 111] = .ok [⟨1, 0, 1, [97], 0⟩, ⟨3, 1, 3, [45, 62], 0⟩, ⟨2, 3, 5, [49, 50], 12⟩] := by
    show lexW 10 [97, 45, 62, 49, 50, 32, 35, 32, 110, 111] = _
    rw [lexW_ok (t := ⟨1, 1, 0⟩) rfl]
    show (lexW 10 [45, 62, 49, 50, 32, 35, 32, 110, 111]).map _ = _
    rw [lexW_ok (t := ⟨3, 2, 0⟩) rfl]
    show ((lexW 10 [49, 50, 32, 35, 32, 110, 111]).map _).map _ = _
    rw [lexW_ok (t := ⟨2, 2, 12⟩) rfl]
    show (((lexW 10 []).map _).map _).map _ = _
    rw [lexW_nil]
    rfl
  unfold outcome
  rw [if_neg (by decide), h]
  rfl
theorem out2 : outcome [120, 32, 61, 32, 48, 48, 55, 59] = ([], 11, 4) := by
  have h : lexAll [120, 32, 61, 32, 48, 48, 55, 59] = .error (11, 4) := by
    show lexW 8 [120, 32, 61, 32, 48, 48, 55, 59] = _
    rw [lexW_ok (t := ⟨1, 1, 0⟩) rfl]
    show (lexW 8 [61, 32, 48, 48, 55, 59]).map _ = _
    rw [lexW_ok (t := ⟨3, 1, 0⟩) rfl]
    show ((lexW 8 [48, 48, 55, 59]).map _).map _ = _
    rw [lexW_err (e := 11) (List.cons_ne_nil _ _) rfl]
    rfl
  unfold outcome
  rw [if_neg (by decide), h]
  rfl
theorem out3 : outcome [97, 32, 38, 32, 98] = ([], 10, 2) := by
  have h : lexAll [97, 32, 38, 32, 98] = .error (10, 2) := by
    show lexW 5 [97, 32, 38, 32, 98] = _
    rw [lexW_ok (t := ⟨1, 1, 0⟩) rfl]
    show (lexW 5 [38, 32, 98]).map _ = _
    rw [lexW_err (e := 10) (List.cons_ne_nil _ _) rfl]
    rfl
  unfold outcome
  rw [if_neg (by decide), h]
  rfl

/-- There are no more tokens than bytes. -/
theorem lexW_len (tot : Nat) : ∀ (m : Nat) (l : Bytes), l.length ≤ m → ∀ ts, lexW tot l = .ok ts → ts.length ≤ l.length
  | 0, l, h, ts, he => by
    obtain rfl : l = [] := List.eq_nil_of_length_eq_zero (by omega)
    rw [lexW_nil] at he
    cases he
    simp
  | m + 1, l, h, ts, he => by
    cases hT : tokN l with
    | error e =>
      cases l with
      | nil => rw [lexW_nil] at he; cases he; simp
      | cons b r => rw [lexW_err (List.cons_ne_nil _ _) hT] at he; cases he
    | ok t =>
      have htl := tokN_len hT
      rw [lexW_ok hT] at he
      have hb := behind_le t.len l
      cases hr : lexW tot (behind t.len l) with
      | error e => rw [hr] at he; cases he
      | ok r =>
        rw [hr] at he
        cases he
        have := lexW_len tot m (behind t.len l) (by omega) r hr
        simp only [List.length_cons]
        omega
theorem outcome_len (l : Bytes) : (outcome l).1.length ≤ 1000000 := by
  unfold outcome
  by_cases h : 16384 < l.length
  · rw [if_pos h]; simp
  · rw [if_neg h]
    cases he : lexAll l with
    | error e => simp
    | ok ts =>
      have := lexW_len l.length _ _ (Nat.le_refl _) ts he
      simp at this ⊢
      omega

set_option maxHeartbeats 1000000 in
theorem known (w : World) (hv : Vars w) : Calls Tryd.prog 9 #[] w fun e w' => e = .returned (.bool true) ∧ Foot (fun _ => False) w w' := by
  have HV := Lib.hid hv
  have C1 := fun W hW => All_c ⟨#[97, 45, 62, 49, 50, 32, 35, 32, 110, 111]⟩ W (by decide) hW
  have C2 := fun W hW => All_c ⟨#[120, 32, 61, 32, 48, 48, 55, 59]⟩ W (by decide) hW
  have C3 := fun W hW => All_c ⟨#[97, 32, 38, 32, 98]⟩ W (by decide) hW
  have N1 := fun W => name_c ⟨#[103, 111]⟩ W (by decide)
  have N2 := fun W => name_c ⟨#[115, 116, 97, 116, 101]⟩ W (by decide)
  have R1 := fun W => reserved_c ⟨#[111, 102, 102]⟩ W
  rw [show nameB (bs ⟨#[103, 111]⟩) = true by decide] at N1
  rw [show nameB (bs ⟨#[115, 116, 97, 116, 101]⟩) = false by decide] at N2
  rw [show reserved (bs ⟨#[111, 102, 102]⟩) = true by decide] at R1
  clear hv
  go_enter Tryd.func9, Tryd.ntmps9
  go_wp2_with fail
  refine (C1 _ HV.out).mono ?_
  rintro e w1 ⟨hf, a1, c1, rfl, hi⟩
  rw [show bs ⟨#[97, 45, 62, 49, 50, 32, 35, 32, 110, 111]⟩ = [97, 45, 62, 49, 50, 32, 35, 32, 110, 111] from rfl] at hi ⊢
  rw [out1] at hi ⊢
  have HI := Lib.hid hi
  have HF1 := Lib.hid (hf.alloc (.cells #[.int .i64 0, .int .i64 0] 26))
  have HA1 := Lib.hid (At.new w1 26 #[.int .i64 0, .int .i64 0])
  have HI1 := Lib.hid (hi.alloc (.cells #[.int .i64 0, .int .i64 0] 26))
  clear hi hf C1
  simp only [List.length_cons, List.length_nil] at HI HI1 ⊢
  go_wp2_with fail
  generalize w1.alloc (.cells #[.int .i64 0, .int .i64 0] 26) = W1 at *
  refine (C2 _ (HV.out.keep HF1.out)).mono ?_
  rintro e w2 ⟨hf, a2, c2, rfl, _⟩
  rw [show bs ⟨#[120, 32, 61, 32, 48, 48, 55, 59]⟩ = [120, 32, 61, 32, 48, 48, 55, 59] from rfl, out2]
  have hf2 := hf.alloc (.cells #[.int .i64 11, .int .i64 4] 26)
  have HF2 := Lib.hid (HF1.out.trans hf2 fun _ _ h => h)
  have HA2 := Lib.hid (At.new w2 26 #[.int .i64 11, .int .i64 4])
  have HA12 := Lib.hid (HA1.out.keep hf2 id)
  have HI2 := Lib.hid (HI1.out.keep hf2 fun _ _ => id)
  clear hf hf2 C2 HF1 HA1 HI1
  go_wp2_with fail
  generalize w2.alloc (.cells #[.int .i64 11, .int .i64 4] 26) = W2 at *
  refine (C3 _ (HV.out.keep HF2.out)).mono ?_
  rintro e w3 ⟨hf, a3, c3, rfl, _⟩
  rw [show bs ⟨#[97, 32, 38, 32, 98]⟩ = [97, 32, 38, 32, 98] from rfl, out3]
  have hf3 := hf.alloc (.cells #[.int .i64 10, .int .i64 2] 26)
  have HF3 := Lib.hid (HF2.out.trans hf3 fun _ _ h => h)
  have HA3 := Lib.hid (At.new w3 26 #[.int .i64 10, .int .i64 2])
  have HA13 := Lib.hid (HA12.out.keep hf3 id)
  have HA23 := Lib.hid (HA2.out.keep hf3 id)
  have HI3 := Lib.hid (HI2.out.keep hf3 fun _ _ => id)
  have p0 := HA13.out.cell 0
  have p2 := HA23.out.cell 0
  have p3 := HA23.out.cell 1
  have p4 := HA3.out.cell 0
  have p5 := HA3.out.cell 1
  obtain ⟨g, off, rfl, q0, q1, q2, q3, q4⟩ := tok_cells HI3.out rfl (k := 1) (by decide)
  obtain ⟨g', off', hg, r0, r1, r2, r3, r4⟩ := tok_cells HI3.out rfl (k := 2) (by decide)
  obtain ⟨rfl, rfl⟩ : g = g' ∧ off = off' := by simpa using hg
  obtain ⟨g', off', hg', s0, s1, s2, s3, s4⟩ := tok_cells HI3.out rfl (k := 3) (by decide)
  obtain ⟨rfl, rfl⟩ : g = g' ∧ off = off' := by simpa using hg'
  simp only [List.getElem_cons_succ, List.getElem_cons_zero, strV] at p0 p2 p3 p4 p5 q0 q1 q2 q3 q4 r0 r1 r2 r3 r4 s0 s1 s2 s3 s4
  clear hf hf3 C3 HF2 HA2 HI2 HA12 HA13 HA23 HA3 hg hg' HI3 HI
  go_wp2_with fail
  refine (N1 _).mono ?_
  rintro e w4 ⟨rfl, rfl⟩
  go_wp2_with fail
  refine (N2 _).mono ?_
  rintro e w5 ⟨rfl, rfl⟩
  go_wp2_with fail
  refine (R1 _).mono ?_
  rintro e w6 ⟨rfl, rfl⟩
  go_wp2_with fail
  go_ret
  exact ⟨rfl, HF3.out⟩
end Go.Proofs.YthcifjehglgicaaDoor.Lex
