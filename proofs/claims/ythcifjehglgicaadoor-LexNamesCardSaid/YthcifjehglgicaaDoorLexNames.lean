/- Name and Reserved agree with the reference for any text, a valid name is a single token, and a single name token is a valid name or a word of the language; the chapter's examples hold. No condition; the variables of strconv and math/bits are laid as their initialisers lay them (tied). -/
import Derived.Test.YthcifjehglgicaaDoorRows
import Derived.WalkKit
import Derived.ProofKit
import Derived.OpenShut
import Derived.ShutString
import Derived.ChangeOld
import Derived.Below
import Derived.Test.YthcifjehglgicaaDoorLexO
import Derived.Test.YthcifjehglgicaaDoorCards
import Derived.Test.YthcifjehglgicaaDoorTie
import Derived.Test.YthcifjehglgicaaDoorTabL
import Derived.SevenTiedAt
import Derived.LaidMore
import Derived.Stop.Joined
namespace Go.Proofs.YthcifjehglgicaaDoor.lexNames
open Go.ChangeShapes Go.WideShapes Go.ChangeAt Go.RowKit
open Go.ChangeMaps (open_string shut_string)
set_option linter.unusedVariables false
set_option linter.unusedSimpArgs false

open Go.Proofs.YthcifjehglgicaaDoor.Lex (listed door_met of_laid)
theorem own : ownKnob Tryd.prog.godebug = none := by kernel_rfl
theorem laidOut : laidOutB Tryd.prog = true := by kernel_rfl
open Lex Mem

set_option maxHeartbeats 1000000 in
theorem walk (a0 : ByteArray) (w : World) (w0 : a0.size ≤ maxLen) (hT : Vars w) :
    Calls Tryd.prog 5 #[.string a0] w fun e w' => e = .returned (.bool true) ∧ Below w.heap.size w w' := by
  have hs : a0.size ≤ 9223372036854775807 := by unfold maxLen at w0; omega
  have HV := Lib.hid hT
  clear w0 hT
  by_cases h1 : 100 < a0.size
  · have h4 : (100 : Int) < a0.size := by omega
    clear h1
    go_enter Tryd.func5, Tryd.ntmps5
    go_wp2_with fail
    refine (known _ HV.out).mono ?_
    rintro e w1 ⟨rfl, hf⟩
    have HF := Lib.hid hf
    clear hf
    go_wp2_with fail
    go_ret
    exact ⟨rfl, HF.out.below (fun _ _ h => h.elim) (Nat.le_refl _)⟩
  · have hs2 : a0.size ≤ 281474976710656 := by omega
    have h4 : ¬ (100 : Int) < a0.size := by omega
    have N1 := fun W => name_c a0 W hs2
    have N2 := fun W => rname_c a0 W hs2
    have R1 := fun W => reserved_c a0 W
    have R2 := fun W => rreserved_c a0 W
    have C1 := fun W hW => All_c a0 W hs hW
    have hol := outcome_len (bs a0)
    have HN1 := fun h => name_one (l := bs a0) h
    have HN2 := fun t0 t1 c2 h hk ht => one_name (l := bs a0) (t0 := t0) (t1 := t1) (c2 := c2) h hk ht
    generalize hR : outcome (bs a0) = R at hol HN1 HN2
    obtain ⟨ts, c1, c2⟩ := R
    have HR := Lib.hid hR
    simp only at hol
    clear hR h1
    generalize nameB (bs a0) = nb at N1 N2 HN1 HN2
    generalize reserved (bs a0) = rb at R1 R2 HN1 HN2
    by_cases g1 : c1 = 0
    · subst g1
      by_cases g2 : ts.length = 2
      · obtain ⟨t0, t1, rfl⟩ : ∃ t0 t1, ts = [t0, t1] := by
          match ts, g2 with
          | [a, b], _ => exact ⟨a, b, rfl⟩
        by_cases g3 : t0.kind = 1
        · by_cases g4 : t0.text = bs a0
          · have hor := HN2 t0 t1 c2 rfl g3 g4
            have hcl : nb = true → rb = false := fun h => (HN1 h).2
            have e1 : (t0.kind == 1) = true := by rw [g3]; rfl
            have e2 : (t0.text == a0.toList) = true := by rw [toList_bs, g4]; exact beq_self_eq_true _
            have HG := Lib.hid g4
            clear HN1 HN2 hol g2 g4
            cases nb with
            | true =>
              obtain rfl : rb = false := hcl rfl
              clear hor hcl
              go_enter Tryd.func5, Tryd.ntmps5
              go_wp2_with (first | (go_at_call 15; refine (N1 _).mono ?_; rintro e w' ⟨rfl, rfl⟩) | (go_at_call 17; refine (R1 _).mono ?_; rintro e w' ⟨rfl, rfl⟩))
              refine (N2 _).mono ?_
              rintro e w1 ⟨rfl, hf⟩
              have HF1 := Lib.hid hf
              clear hf N2
              go_wp2_with (first | (go_at_call 15; refine (N1 _).mono ?_; rintro e w' ⟨rfl, rfl⟩) | (go_at_call 17; refine (R1 _).mono ?_; rintro e w' ⟨rfl, rfl⟩))
              refine (R2 _).mono ?_
              rintro e w2 ⟨rfl, hf⟩
              have HF2 := Lib.hid (HF1.out.trans hf fun _ _ h => h)
              clear hf R2 HF1
              go_wp2_with (first | (go_at_call 15; refine (N1 _).mono ?_; rintro e w' ⟨rfl, rfl⟩) | (go_at_call 17; refine (R1 _).mono ?_; rintro e w' ⟨rfl, rfl⟩))
              refine (C1 _ (HV.out.keep HF2.out)).mono ?_
              rintro e w3 ⟨hf, a, c, rfl, hi⟩
              rw [HR.out] at hi ⊢
              simp only [List.length_cons, List.length_nil] at hi ⊢
              have hfa := hf.alloc (.cells #[.int .i64 0, .int .i64 c2] 26)
              have HF3 := Lib.hid (HF2.out.trans hfa fun _ _ h => h)
              have HA := Lib.hid (At.new w3 26 #[.int .i64 0, .int .i64 c2])
              have hi2 := hi.alloc (.cells #[.int .i64 0, .int .i64 c2] 26)
              obtain ⟨g, off, rfl, q0, q1, q2, q3, q4⟩ := tok_cells hi2 rfl (k := 0) (by decide)
              rw [Nat.zero_mul, Nat.add_zero] at q0 q1 q2 q3 q4
              simp only [List.getElem_cons_zero, strV] at q0 q3
              clear hi2 q1 q2 q4
              clear hi hf hfa HF2 C1
              go_wp2_with (first | (go_at_call 15; refine (N1 _).mono ?_; rintro e w' ⟨rfl, rfl⟩) | (go_at_call 17; refine (R1 _).mono ?_; rintro e w' ⟨rfl, rfl⟩))
              refine (known _ (HV.out.keep HF3.out)).mono ?_
              rintro e w4 ⟨rfl, hf⟩
              have HF := Lib.hid (HF3.out.trans hf fun _ _ h => h)
              clear hf HF3
              go_wp2_with fail
              go_ret
              exact ⟨rfl, HF.out.below (fun _ _ h => h.elim) (Nat.le_refl _)⟩
            | false =>
              obtain rfl : rb = true := hor.resolve_left (by decide)
              clear hor hcl
              go_enter Tryd.func5, Tryd.ntmps5
              go_wp2_with (first | (go_at_call 15; refine (N1 _).mono ?_; rintro e w' ⟨rfl, rfl⟩) | (go_at_call 17; refine (R1 _).mono ?_; rintro e w' ⟨rfl, rfl⟩))
              refine (N2 _).mono ?_
              rintro e w1 ⟨rfl, hf⟩
              have HF1 := Lib.hid hf
              clear hf N2
              go_wp2_with (first | (go_at_call 15; refine (N1 _).mono ?_; rintro e w' ⟨rfl, rfl⟩) | (go_at_call 17; refine (R1 _).mono ?_; rintro e w' ⟨rfl, rfl⟩))
              refine (R2 _).mono ?_
              rintro e w2 ⟨rfl, hf⟩
              have HF2 := Lib.hid (HF1.out.trans hf fun _ _ h => h)
              clear hf R2 HF1
              go_wp2_with (first | (go_at_call 15; refine (N1 _).mono ?_; rintro e w' ⟨rfl, rfl⟩) | (go_at_call 17; refine (R1 _).mono ?_; rintro e w' ⟨rfl, rfl⟩))
              refine (C1 _ (HV.out.keep HF2.out)).mono ?_
              rintro e w3 ⟨hf, a, c, rfl, hi⟩
              rw [HR.out] at hi ⊢
              simp only [List.length_cons, List.length_nil] at hi ⊢
              have hfa := hf.alloc (.cells #[.int .i64 0, .int .i64 c2] 26)
              have HF3 := Lib.hid (HF2.out.trans hfa fun _ _ h => h)
              have HA := Lib.hid (At.new w3 26 #[.int .i64 0, .int .i64 c2])
              have hi2 := hi.alloc (.cells #[.int .i64 0, .int .i64 c2] 26)
              obtain ⟨g, off, rfl, q0, q1, q2, q3, q4⟩ := tok_cells hi2 rfl (k := 0) (by decide)
              rw [Nat.zero_mul, Nat.add_zero] at q0 q1 q2 q3 q4
              simp only [List.getElem_cons_zero, strV] at q0 q3
              clear hi2 q1 q2 q4
              clear hi hf hfa HF2 C1
              go_wp2_with (first | (go_at_call 15; refine (N1 _).mono ?_; rintro e w' ⟨rfl, rfl⟩) | (go_at_call 17; refine (R1 _).mono ?_; rintro e w' ⟨rfl, rfl⟩))
              refine (known _ (HV.out.keep HF3.out)).mono ?_
              rintro e w4 ⟨rfl, hf⟩
              have HF := Lib.hid (HF3.out.trans hf fun _ _ h => h)
              clear hf HF3
              go_wp2_with fail
              go_ret
              exact ⟨rfl, HF.out.below (fun _ _ h => h.elim) (Nat.le_refl _)⟩
          · obtain rfl : nb = false := by
              cases nb with
              | false => rfl
              | true =>
                have h := (HN1 rfl).1
                simp only [Prod.mk.injEq, List.cons.injEq] at h
                exact absurd (by rw [h.1.1]) g4
            have e1 : (t0.kind == 1) = true := by rw [g3]; rfl
            have e2 : (t0.text == a0.toList) = false := by rw [toList_bs, beq_eq_false_iff_ne]; exact g4
            clear HN1 HN2 hol g2 g4
            go_enter Tryd.func5, Tryd.ntmps5
            go_wp2_with (first | (go_at_call 15; refine (N1 _).mono ?_; rintro e w' ⟨rfl, rfl⟩) | (go_at_call 17; refine (R1 _).mono ?_; rintro e w' ⟨rfl, rfl⟩))
            refine (N2 _).mono ?_
            rintro e w1 ⟨rfl, hf⟩
            have HF1 := Lib.hid hf
            clear hf N2
            go_wp2_with (first | (go_at_call 15; refine (N1 _).mono ?_; rintro e w' ⟨rfl, rfl⟩) | (go_at_call 17; refine (R1 _).mono ?_; rintro e w' ⟨rfl, rfl⟩))
            refine (R2 _).mono ?_
            rintro e w2 ⟨rfl, hf⟩
            have HF2 := Lib.hid (HF1.out.trans hf fun _ _ h => h)
            clear hf R2 HF1
            go_wp2_with (first | (go_at_call 15; refine (N1 _).mono ?_; rintro e w' ⟨rfl, rfl⟩) | (go_at_call 17; refine (R1 _).mono ?_; rintro e w' ⟨rfl, rfl⟩))
            refine (C1 _ (HV.out.keep HF2.out)).mono ?_
            rintro e w3 ⟨hf, a, c, rfl, hi⟩
            rw [HR.out] at hi ⊢
            simp only [List.length_cons, List.length_nil] at hi ⊢
            have hfa := hf.alloc (.cells #[.int .i64 0, .int .i64 c2] 26)
            have HF3 := Lib.hid (HF2.out.trans hfa fun _ _ h => h)
            have HA := Lib.hid (At.new w3 26 #[.int .i64 0, .int .i64 c2])
            have hi2 := hi.alloc (.cells #[.int .i64 0, .int .i64 c2] 26)
            obtain ⟨g, off, rfl, q0, q1, q2, q3, q4⟩ := tok_cells hi2 rfl (k := 0) (by decide)
            rw [Nat.zero_mul, Nat.add_zero] at q0 q1 q2 q3 q4
            simp only [List.getElem_cons_zero, strV] at q0 q3
            clear hi2 q1 q2 q4
            clear hi hf hfa HF2 C1
            go_wp2_with (first | (go_at_call 15; refine (N1 _).mono ?_; rintro e w' ⟨rfl, rfl⟩) | (go_at_call 17; refine (R1 _).mono ?_; rintro e w' ⟨rfl, rfl⟩))
            refine (known _ (HV.out.keep HF3.out)).mono ?_
            rintro e w4 ⟨rfl, hf⟩
            have HF := Lib.hid (HF3.out.trans hf fun _ _ h => h)
            clear hf HF3
            go_wp2_with fail
            go_ret
            exact ⟨rfl, HF.out.below (fun _ _ h => h.elim) (Nat.le_refl _)⟩
        · obtain rfl : nb = false := by
            cases nb with
            | false => rfl
            | true =>
              have h := (HN1 rfl).1
              simp only [Prod.mk.injEq, List.cons.injEq] at h
              exact absurd (by rw [h.1.1]) g3
          have e1 : (t0.kind == 1) = false := by rw [beq_eq_false_iff_ne]; exact g3
          clear HN1 HN2 hol g2
          go_enter Tryd.func5, Tryd.ntmps5
          go_wp2_with (first | (go_at_call 15; refine (N1 _).mono ?_; rintro e w' ⟨rfl, rfl⟩) | (go_at_call 17; refine (R1 _).mono ?_; rintro e w' ⟨rfl, rfl⟩))
          refine (N2 _).mono ?_
          rintro e w1 ⟨rfl, hf⟩
          have HF1 := Lib.hid hf
          clear hf N2
          go_wp2_with (first | (go_at_call 15; refine (N1 _).mono ?_; rintro e w' ⟨rfl, rfl⟩) | (go_at_call 17; refine (R1 _).mono ?_; rintro e w' ⟨rfl, rfl⟩))
          refine (R2 _).mono ?_
          rintro e w2 ⟨rfl, hf⟩
          have HF2 := Lib.hid (HF1.out.trans hf fun _ _ h => h)
          clear hf R2 HF1
          go_wp2_with (first | (go_at_call 15; refine (N1 _).mono ?_; rintro e w' ⟨rfl, rfl⟩) | (go_at_call 17; refine (R1 _).mono ?_; rintro e w' ⟨rfl, rfl⟩))
          refine (C1 _ (HV.out.keep HF2.out)).mono ?_
          rintro e w3 ⟨hf, a, c, rfl, hi⟩
          rw [HR.out] at hi ⊢
          simp only [List.length_cons, List.length_nil] at hi ⊢
          have hfa := hf.alloc (.cells #[.int .i64 0, .int .i64 c2] 26)
          have HF3 := Lib.hid (HF2.out.trans hfa fun _ _ h => h)
          have HA := Lib.hid (At.new w3 26 #[.int .i64 0, .int .i64 c2])
          have hi2 := hi.alloc (.cells #[.int .i64 0, .int .i64 c2] 26)
          obtain ⟨g, off, rfl, q0, q1, q2, q3, q4⟩ := tok_cells hi2 rfl (k := 0) (by decide)
          rw [Nat.zero_mul, Nat.add_zero] at q0 q1 q2 q3 q4
          simp only [List.getElem_cons_zero, strV] at q0 q3
          clear hi2 q1 q2 q4
          clear hi hf hfa HF2 C1
          go_wp2_with (first | (go_at_call 15; refine (N1 _).mono ?_; rintro e w' ⟨rfl, rfl⟩) | (go_at_call 17; refine (R1 _).mono ?_; rintro e w' ⟨rfl, rfl⟩))
          refine (known _ (HV.out.keep HF3.out)).mono ?_
          rintro e w4 ⟨rfl, hf⟩
          have HF := Lib.hid (HF3.out.trans hf fun _ _ h => h)
          clear hf HF3
          go_wp2_with fail
          go_ret
          exact ⟨rfl, HF.out.below (fun _ _ h => h.elim) (Nat.le_refl _)⟩
      · obtain rfl : nb = false := by
          cases nb with
          | false => rfl
          | true =>
            have h := (HN1 rfl).1
            simp only [Prod.mk.injEq] at h
            exact absurd (by rw [h.1]; rfl) g2
        have e0 : ((ts.length : Int) == 2) = false := by rw [beq_eq_false_iff_ne]; omega
        clear HN1 HN2 g2
        go_enter Tryd.func5, Tryd.ntmps5
        go_wp2_with (first | (go_at_call 15; refine (N1 _).mono ?_; rintro e w' ⟨rfl, rfl⟩) | (go_at_call 17; refine (R1 _).mono ?_; rintro e w' ⟨rfl, rfl⟩))
        refine (N2 _).mono ?_
        rintro e w1 ⟨rfl, hf⟩
        have HF1 := Lib.hid hf
        clear hf N2
        go_wp2_with (first | (go_at_call 15; refine (N1 _).mono ?_; rintro e w' ⟨rfl, rfl⟩) | (go_at_call 17; refine (R1 _).mono ?_; rintro e w' ⟨rfl, rfl⟩))
        refine (R2 _).mono ?_
        rintro e w2 ⟨rfl, hf⟩
        have HF2 := Lib.hid (HF1.out.trans hf fun _ _ h => h)
        clear hf R2 HF1
        go_wp2_with (first | (go_at_call 15; refine (N1 _).mono ?_; rintro e w' ⟨rfl, rfl⟩) | (go_at_call 17; refine (R1 _).mono ?_; rintro e w' ⟨rfl, rfl⟩))
        refine (C1 _ (HV.out.keep HF2.out)).mono ?_
        rintro e w3 ⟨hf, a, c, rfl, hi⟩
        rw [HR.out] at hi ⊢
        have hfa := hf.alloc (.cells #[.int .i64 0, .int .i64 c2] 26)
        have HF3 := Lib.hid (HF2.out.trans hfa fun _ _ h => h)
        have HA := Lib.hid (At.new w3 26 #[.int .i64 0, .int .i64 c2])
        clear hi hf hfa HF2 C1
        go_wp2_with (first | (go_at_call 15; refine (N1 _).mono ?_; rintro e w' ⟨rfl, rfl⟩) | (go_at_call 17; refine (R1 _).mono ?_; rintro e w' ⟨rfl, rfl⟩))
        refine (known _ (HV.out.keep HF3.out)).mono ?_
        rintro e w4 ⟨rfl, hf⟩
        have HF := Lib.hid (HF3.out.trans hf fun _ _ h => h)
        clear hf HF3
        go_wp2_with fail
        go_ret
        exact ⟨rfl, HF.out.below (fun _ _ h => h.elim) (Nat.le_refl _)⟩
    · obtain rfl : nb = false := by
        cases nb with
        | false => rfl
        | true =>
          have h := (HN1 rfl).1
          simp only [Prod.mk.injEq] at h
          exact absurd h.2.1 g1
      have e0 : (c1 == 0) = false := by rw [beq_eq_false_iff_ne]; exact g1
      clear HN1 HN2 g1
      go_enter Tryd.func5, Tryd.ntmps5
      go_wp2_with (first | (go_at_call 15; refine (N1 _).mono ?_; rintro e w' ⟨rfl, rfl⟩) | (go_at_call 17; refine (R1 _).mono ?_; rintro e w' ⟨rfl, rfl⟩))
      refine (N2 _).mono ?_
      rintro e w1 ⟨rfl, hf⟩
      have HF1 := Lib.hid hf
      clear hf N2
      go_wp2_with (first | (go_at_call 15; refine (N1 _).mono ?_; rintro e w' ⟨rfl, rfl⟩) | (go_at_call 17; refine (R1 _).mono ?_; rintro e w' ⟨rfl, rfl⟩))
      refine (R2 _).mono ?_
      rintro e w2 ⟨rfl, hf⟩
      have HF2 := Lib.hid (HF1.out.trans hf fun _ _ h => h)
      clear hf R2 HF1
      go_wp2_with (first | (go_at_call 15; refine (N1 _).mono ?_; rintro e w' ⟨rfl, rfl⟩) | (go_at_call 17; refine (R1 _).mono ?_; rintro e w' ⟨rfl, rfl⟩))
      refine (C1 _ (HV.out.keep HF2.out)).mono ?_
      rintro e w3 ⟨hf, a, c, rfl, hi⟩
      rw [HR.out] at hi ⊢
      have hfa := hf.alloc (.cells #[.int .i64 c1, .int .i64 c2] 26)
      have HF3 := Lib.hid (HF2.out.trans hfa fun _ _ h => h)
      have HA := Lib.hid (At.new w3 26 #[.int .i64 c1, .int .i64 c2])
      clear hi hf hfa HF2 C1
      go_wp2_with (first | (go_at_call 15; refine (N1 _).mono ?_; rintro e w' ⟨rfl, rfl⟩) | (go_at_call 17; refine (R1 _).mono ?_; rintro e w' ⟨rfl, rfl⟩))
      refine (known _ (HV.out.keep HF3.out)).mono ?_
      rintro e w4 ⟨rfl, hf⟩
      have HF := Lib.hid (HF3.out.trans hf fun _ _ h => h)
      clear hf HF3
      go_wp2_with fail
      go_ret
      exact ⟨rfl, HF.out.below (fun _ _ h => h.elim) (Nat.le_refl _)⟩

set_option maxRecDepth 100000 in
theorem lifted (os : Os) (started : os.Started) (H : Type) (enc : TypeId × Value → H) :
    ReturnsInHanded {} Tryd.checked os 5 .any (fun w args => (Rows.lexNamesSpec.pre enc Tryd.prog Tryd.f5 [] false w args ∧ laidMetH Tryd.prog listed w) ∧ sizedMet enc Tryd.prog Tryd.f5 (OpenSpec.ofChange Rows.lexNamesSpec) false w args) (Rows.lexNamesSpec.post enc Tryd.prog Tryd.f5 false true false false) := by
  refine returnsInHanded_of_change_and (C := Tryd.checked) (X := fun w _ => laidMetH Tryd.prog listed w) (fun _ _ _ hh h => h.of_heap hh) own started (by kernel_rfl) Tryd.func5
    (ChangeSpec.witness_shaped (enc := enc) (C := Tryd.checked) (os := os) (X := fun w _ => laidMetH Tryd.prog listed w) false (World.doorLaid Tryd.prog 400 os) #[.string ⟨#[]⟩] 8 rfl (World.shaped_of_RefB (by kernel_rfl) (by kernel_rfl)) (by kernel_rfl) (by kernel_rfl) (by kernel_rfl) (door_met os _)) ?_
  intro W base args ds gs before hval0 hW _ _ hL _
  have tab := of_laid hL
  have hval : ∀ (j : Nat) t v, Tryd.f5.params[j]? = some t → args[j]? = some v → Value.okWide Tryd.prog W .any base t v := hval0
  have hW' := hW
  obtain ⟨p, q, hA0, hV, rfl, hfz, hnd⟩ := hW
  have hA : DataW.TrodAll enc Tryd.prog W 0 (fun _ => true) true Tryd.f5.params.toList args.toList ds p := hA0
  rw [Tryd.params5] at hA hval
  obtain ⟨v0, vs0, d0, ds0, p0, q0, hargs, rfl, rfl, h0, r0⟩ := trodAll_cons hA
  obtain ⟨rfl, rfl, rfl⟩ := trodAll_nil r0
  obtain rfl : args = #[v0] := by cases args; simp_all
  obtain ⟨rfl, rfl⟩ := trodVars_none hV
  obtain ⟨a0, rfl, rfl, rfl, w0⟩ := open_string Tryd.underlying9 (hval 0 9 v0 rfl rfl) h0
  clear hA0 hval0
  refine (walk a0 W w0 tab).mono fun e W' ⟨he, bel⟩ => ?_
  subst he
  exact ⟨_, rfl, _, _, _, [], _, [], hW', trodAll_mk1 (shut_bool Tryd.underlying4 _), (trodAll_cons_mk (shut_string Tryd.underlying9 w0) trodAll_mk0), rfl, bel.frame _, fun h => by cases h⟩

theorem over : Rows.lexNamesRow.holds Tryd.pinned (OpenSpec.ofChange Rows.lexNamesSpec) :=
  OpenClaim.holds_of_wide 5 Tryd.f5 rfl rfl rfl rfl rfl rfl rfl ⟨rfl, rfl, rfl, rfl, rfl⟩ rfl rfl rfl rfl rfl (by kernel_rfl) Tryd.func5 (by kernel_rfl)
    (of_decide_eq_true (by kernel_rfl)) (by unfold Func.isWrapper; first | (rw [if_pos (by decide +kernel)]; kernel_rfl) | (rw [if_neg (by decide +kernel)]; exact ⟨rfl, rfl⟩))
    (fun os started H enc _ => lifted os started H enc)

theorem proved : Rows.LexNamesCardSaid :=
  Claim7.holds_tied_plain_at .later [] [.data, .data, .data, .sentinel, .sentinel] true (true, "4475519d43f7e576d893d05a793f837ffc487e2514522fc70b7312a4c9c61309") true
    over (fun _ h => by cases h) (by kernel_rfl) (fun _ h => by cases h) lexNames_row_tie rfl ⟨rfl, rfl⟩ (by kernel_rfl) rfl
    (fun f fn hf hfn => by
      obtain rfl : f = 5 := Option.some.inj ((show Tryd.prog.funcNamed Tryd.f5.name = some 5 by kernel_rfl).symm.trans hf) |>.symm
      obtain rfl : fn = Tryd.f5 := (Option.some.inj (Tryd.func5.symm.trans hfn)).symm
      exact ⟨by kernel_rfl, fun j t ht => by
        rw [Tryd.params5] at ht
        have hm : t ∈ [9] := by simpa using Array.mem_of_getElem? ht
        have hall : ([9].all fun u => !Tryd.prog.wantsStandIn u) = true := by kernel_rfl
        exact (show Tryd.prog.wantsStandIn t = false by simpa using List.all_eq_true.1 hall t hm)⟩)
    (by kernel_rfl)
#print axioms proved
end Go.Proofs.YthcifjehglgicaaDoor.lexNames
