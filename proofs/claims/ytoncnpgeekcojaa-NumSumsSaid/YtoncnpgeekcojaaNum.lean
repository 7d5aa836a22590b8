/- The contracts of package num and of its reference: each call's answer, the world left alone. -/
import Derived.Test.YtoncnpgeekcojaaChecked
import Derived.Test.YtoncnpgeekcojaaNumM
import Derived.WalkKit
import Derived.ProofKit
import Derived.Lib.Hide
namespace Go.Proofs.Ytoncnpgeekcojaa.Num
open Go.RowKit NumM

theorem two {x y x' y' : Int} (h : x = x') (k : y = y') : Ending.returned (.tuple #[.int .i64 x, .int .i64 y]) = Ending.returned (.tuple #[.int .i64 x', .int .i64 y']) := by rw [h, k]

theorem Add (a b : Int) (w : World) (ha : -9223372036854775808 ≤ a ∧ a ≤ 9223372036854775807) (hb : -9223372036854775808 ≤ b ∧ b ≤ 9223372036854775807) :
    Calls Try.prog 8 #[.int .i64 a, .int .i64 b] w fun e w' => e = .returned (.tuple #[.int .i64 (okV (a + b)), .int .i64 (okE (a + b))]) ∧ w = w' := by
  have ht := add_test ha hb
  by_cases h : -9223372036854775808 ≤ a + b ∧ a + b ≤ 9223372036854775807
  · rw [IntWalk.wrap64_in _ h] at ht
    have ht' := Int.not_lt.1 (mt ht.1 (fun k => k h))
    rw [okV_in h, okE_in h]
    clear ht
    go_enter Try.func8, Try.ntmps8
    go_wp2_with fail
    go_ret2
    exact ⟨rfl, rfl⟩
  · have ht' := ht.2 h
    rw [okV_out h, okE_out h]
    clear ht
    go_enter Try.func8, Try.ntmps8
    go_wp2_with fail
    go_ret2
    exact ⟨rfl, rfl⟩

theorem Sub (a b : Int) (w : World) (ha : -9223372036854775808 ≤ a ∧ a ≤ 9223372036854775807) (hb : -9223372036854775808 ≤ b ∧ b ≤ 9223372036854775807) :
    Calls Try.prog 10 #[.int .i64 a, .int .i64 b] w fun e w' => e = .returned (.tuple #[.int .i64 (okV (a - b)), .int .i64 (okE (a - b))]) ∧ w = w' := by
  have ht := sub_test ha hb
  by_cases h : -9223372036854775808 ≤ a - b ∧ a - b ≤ 9223372036854775807
  · rw [IntWalk.wrap64_in _ h] at ht
    have ht' := Int.not_lt.1 (mt ht.1 (fun k => k h))
    rw [okV_in h, okE_in h]
    clear ht
    go_enter Try.func10, Try.ntmps10
    go_wp2_with fail
    go_ret2
    exact ⟨rfl, rfl⟩
  · have ht' := ht.2 h
    rw [okV_out h, okE_out h]
    clear ht
    go_enter Try.func10, Try.ntmps10
    go_wp2_with fail
    go_ret2
    exact ⟨rfl, rfl⟩

theorem Div_zero (a : Int) (w : World) :
    Calls Try.prog 14 #[.int .i64 a, .int .i64 0] w fun e w' => e = .returned (.tuple #[.int .i64 0, .int .i64 3]) ∧ w = w' := by
  go_enter Try.func14, Try.ntmps14
  go_wp2_with fail
  go_ret2
  exact ⟨rfl, rfl⟩
theorem Div_over (w : World) :
    Calls Try.prog 14 #[.int .i64 (-9223372036854775808), .int .i64 (-1)] w fun e w' => e = .returned (.tuple #[.int .i64 0, .int .i64 2]) ∧ w = w' := by
  go_enter Try.func14, Try.ntmps14
  go_wp2_with fail
  go_ret2
  exact ⟨rfl, rfl⟩
theorem Div_in (a b : Int) (w : World) (ha : -9223372036854775808 ≤ a ∧ a ≤ 9223372036854775807) (hb : b ≠ 0) (h : ¬ (a = -9223372036854775808 ∧ b = -1)) :
    Calls Try.prog 14 #[.int .i64 a, .int .i64 b] w fun e w' => e = .returned (.tuple #[.int .i64 (a.tdiv b), .int .i64 0]) ∧ w = w' := by
  have hf := tdiv_fits ha hb h
  by_cases h1 : a = -9223372036854775808
  · subst h1
    have e : (-9223372036854775808 : Int).tdiv b = -(9223372036854775808 : Int).tdiv b := Int.neg_tdiv ..
    rw [e] at hf ⊢
    clear e ha
    have hb1 : (b == -1) = false := by rw [beq_eq_false_iff_ne]; exact fun k => h ⟨rfl, k⟩
    clear h
    go_enter Try.func14, Try.ntmps14
    go_wp2_with fail
    go_ret2
    refine ⟨two ?_ rfl, rfl⟩
    first | rfl | exact IntWalk.wrap64_in _ hf
  · by_cases h2 : b = -1
    · subst h2
      rw [Int.tdiv_neg, Int.tdiv_one] at hf ⊢
      go_enter Try.func14, Try.ntmps14
      go_wp2_with fail
      go_ret2
      refine ⟨two ?_ rfl, rfl⟩
      first | rfl | exact IntWalk.wrap64_in _ hf
    · go_enter Try.func14, Try.ntmps14
      go_wp2_with fail
      go_ret2
      refine ⟨two ?_ rfl, rfl⟩
      first | rfl | exact IntWalk.wrap64_in _ hf

theorem RDiv_zero (a : Int) (w : World) :
    Calls Try.prog 15 #[.int .i64 a, .int .i64 0] w fun e w' => e = .returned (.tuple #[.int .i64 0, .int .i64 3]) ∧ w = w' := by
  go_enter Try.func15, Try.ntmps15
  go_wp2_with fail
  go_ret2
  exact ⟨rfl, rfl⟩
theorem RDiv_over (w : World) :
    Calls Try.prog 15 #[.int .i64 (-9223372036854775808), .int .i64 (-1)] w fun e w' => e = .returned (.tuple #[.int .i64 0, .int .i64 2]) ∧ w = w' := by
  go_enter Try.func15, Try.ntmps15
  go_wp2_with fail
  go_ret2
  exact ⟨rfl, rfl⟩
theorem RDiv_in (a b : Int) (w : World) (ha : -9223372036854775808 ≤ a ∧ a ≤ 9223372036854775807) (hb : b ≠ 0) (h : ¬ (a = -9223372036854775808 ∧ b = -1)) :
    Calls Try.prog 15 #[.int .i64 a, .int .i64 b] w fun e w' => e = .returned (.tuple #[.int .i64 (a.tdiv b), .int .i64 0]) ∧ w = w' := by
  have hf := tdiv_fits ha hb h
  by_cases h1 : a = -9223372036854775808
  · subst h1
    have e : (-9223372036854775808 : Int).tdiv b = -(9223372036854775808 : Int).tdiv b := Int.neg_tdiv ..
    rw [e] at hf ⊢
    clear e ha
    have hb1 : (b == -1) = false := by rw [beq_eq_false_iff_ne]; exact fun k => h ⟨rfl, k⟩
    clear h
    go_enter Try.func15, Try.ntmps15
    go_wp2_with fail
    go_ret2
    refine ⟨two ?_ rfl, rfl⟩
    first | rfl | exact IntWalk.wrap64_in _ hf
  · by_cases h2 : b = -1
    · subst h2
      rw [Int.tdiv_neg, Int.tdiv_one] at hf ⊢
      go_enter Try.func15, Try.ntmps15
      go_wp2_with fail
      go_ret2
      refine ⟨two ?_ rfl, rfl⟩
      first | rfl | exact IntWalk.wrap64_in _ hf
    · go_enter Try.func15, Try.ntmps15
      go_wp2_with fail
      go_ret2
      refine ⟨two ?_ rfl, rfl⟩
      first | rfl | exact IntWalk.wrap64_in _ hf

theorem Mod_zero (a : Int) (w : World) :
    Calls Try.prog 16 #[.int .i64 a, .int .i64 0] w fun e w' => e = .returned (.tuple #[.int .i64 0, .int .i64 3]) ∧ w = w' := by
  go_enter Try.func16, Try.ntmps16
  go_wp2_with fail
  go_ret2
  exact ⟨rfl, rfl⟩
theorem Mod_in (a b : Int) (w : World) (hb : b ≠ 0) :
    Calls Try.prog 16 #[.int .i64 a, .int .i64 b] w fun e w' => e = .returned (.tuple #[.int .i64 (a.tmod b), .int .i64 0]) ∧ w = w' := by
  by_cases h2 : b = -1
  · subst h2
    rw [Int.tmod_neg, Int.tmod_one]
    go_enter Try.func16, Try.ntmps16
    go_wp2_with fail
    go_ret2
    refine ⟨two ?_ rfl, rfl⟩
    first | rfl | rw [Int.tmod_neg, Int.tmod_one] | rw [Int.tmod_one]
  · go_enter Try.func16, Try.ntmps16
    go_wp2_with fail
    go_ret2
    exact ⟨rfl, rfl⟩

theorem RMod_zero (a : Int) (w : World) :
    Calls Try.prog 17 #[.int .i64 a, .int .i64 0] w fun e w' => e = .returned (.tuple #[.int .i64 0, .int .i64 3]) ∧ w = w' := by
  go_enter Try.func17, Try.ntmps17
  go_wp2_with fail
  go_ret2
  exact ⟨rfl, rfl⟩
theorem RMod_in (a b : Int) (w : World) (hb : b ≠ 0) :
    Calls Try.prog 17 #[.int .i64 a, .int .i64 b] w fun e w' => e = .returned (.tuple #[.int .i64 (a.tmod b), .int .i64 0]) ∧ w = w' := by
  by_cases h2 : b = -1
  · subst h2
    rw [Int.tmod_neg, Int.tmod_one]
    go_enter Try.func17, Try.ntmps17
    go_wp2_with fail
    go_ret2
    refine ⟨two ?_ rfl, rfl⟩
    first | rfl | rw [Int.tmod_neg, Int.tmod_one] | rw [Int.tmod_one]
  · go_enter Try.func17, Try.ntmps17
    go_wp2_with fail
    go_ret2
    exact ⟨rfl, rfl⟩

theorem RAdd (a b : Int) (w : World) (ha : -9223372036854775808 ≤ a ∧ a ≤ 9223372036854775807) (hb : -9223372036854775808 ≤ b ∧ b ≤ 9223372036854775807) :
    Calls Try.prog 9 #[.int .i64 a, .int .i64 b] w fun e w' => e = .returned (.tuple #[.int .i64 (okV (a + b)), .int .i64 (okE (a + b))]) ∧ w = w' := by
  by_cases h : -9223372036854775808 ≤ a + b ∧ a + b ≤ 9223372036854775807
  · rw [okV_in h, okE_in h]
    go_enter Try.func9, Try.ntmps9
    go_wp2_with fail
    all_goals (go_ret2; exact ⟨rfl, rfl⟩)
  · rw [okV_out h, okE_out h]
    go_enter Try.func9, Try.ntmps9
    go_wp2_with fail
    all_goals (go_ret2; exact ⟨rfl, rfl⟩)

theorem RSub (a b : Int) (w : World) (ha : -9223372036854775808 ≤ a ∧ a ≤ 9223372036854775807) (hb : -9223372036854775808 ≤ b ∧ b ≤ 9223372036854775807) :
    Calls Try.prog 11 #[.int .i64 a, .int .i64 b] w fun e w' => e = .returned (.tuple #[.int .i64 (okV (a - b)), .int .i64 (okE (a - b))]) ∧ w = w' := by
  by_cases h : -9223372036854775808 ≤ a - b ∧ a - b ≤ 9223372036854775807
  · rw [okV_in h, okE_in h]
    go_enter Try.func11, Try.ntmps11
    go_wp2_with fail
    all_goals (go_ret2; exact ⟨rfl, rfl⟩)
  · rw [okV_out h, okE_out h]
    go_enter Try.func11, Try.ntmps11
    go_wp2_with fail
    all_goals (go_ret2; exact ⟨rfl, rfl⟩)

theorem Mul_in (a b : Int) (w : World) (ha : -9223372036854775808 ≤ a ∧ a ≤ 9223372036854775807) (hb : -9223372036854775808 ≤ b ∧ b ≤ 9223372036854775807) (h1 : a ≠ 0) (h2 : b ≠ 0) (h : -9223372036854775808 ≤ a * b ∧ a * b ≤ 9223372036854775807) :
    Calls Try.prog 12 #[.int .i64 a, .int .i64 b] w fun e w' => e = .returned (.tuple #[.int .i64 (a * b), .int .i64 0]) ∧ w = w' := by
  have h1b : (a == 0) = false := by rw [beq_eq_false_iff_ne]; exact h1
  have h2b : (b == 0) = false := by rw [beq_eq_false_iff_ne]; exact h2
  have hm : ¬ (a * b = -9223372036854775808 ∧ a = -1) := by
    rintro ⟨k1, k2⟩; subst k2; omega
  have hd := mul_exact h1 h
  rw [IntWalk.wrap64_in _ h] at hd
  have C := Lib.hid (fun W => Div_in (a * b) a W h h1 hm)
  clear hm
  rw [hd] at C
  clear hd
  go_enter Try.func12, Try.ntmps12
  go_wp2_with fail
  refine (C.out _).mono ?_
  rintro e w1 ⟨rfl, rfl⟩
  go_wp2_with fail
  go_ret2
  exact ⟨rfl, rfl⟩
theorem Mul_turn (w : World) :
    Calls Try.prog 12 #[.int .i64 (-1), .int .i64 (-9223372036854775808)] w fun e w' => e = .returned (.tuple #[.int .i64 0, .int .i64 2]) ∧ w = w' := by
  go_enter Try.func12, Try.ntmps12
  go_wp2_with fail
  rw [wrap_top]
  refine (Div_over _).mono ?_
  rintro e w1 ⟨rfl, rfl⟩
  go_wp2_with fail
  go_ret2
  exact ⟨rfl, rfl⟩
theorem Mul_out (a b : Int) (w : World) (ha : -9223372036854775808 ≤ a ∧ a ≤ 9223372036854775807) (h1 : a ≠ 0) (h2 : b ≠ 0) (h : ¬ (-9223372036854775808 ≤ a * b ∧ a * b ≤ 9223372036854775807)) (hm : ¬ (wrap64 (a * b) = -9223372036854775808 ∧ a = -1)) :
    Calls Try.prog 12 #[.int .i64 a, .int .i64 b] w fun e w' => e = .returned (.tuple #[.int .i64 0, .int .i64 2]) ∧ w = w' := by
  have h1b : (a == 0) = false := by rw [beq_eq_false_iff_ne]; exact h1
  have h2b : (b == 0) = false := by rw [beq_eq_false_iff_ne]; exact h2
  have hd := mt (mul_back ha h1 (b := b)) h
  have hw : -9223372036854775808 ≤ wrap64 (a * b) ∧ wrap64 (a * b) ≤ 9223372036854775807 := by unfold wrap64; omega
  have hdb : ((wrap64 (a * b)).tdiv a == b) = false := by rw [beq_eq_false_iff_ne]; exact hd
  have C := Lib.hid (fun W => Div_in (wrap64 (a * b)) a W hw h1 hm)
  clear hm hd hw h
  go_enter Try.func12, Try.ntmps12
  go_wp2_with fail
  refine (C.out _).mono ?_
  rintro e w1 ⟨rfl, rfl⟩
  go_wp2_with fail
  go_ret2
  exact ⟨rfl, rfl⟩
theorem Mul_zero (a b : Int) (w : World) (h : a = 0 ∨ b = 0) :
    Calls Try.prog 12 #[.int .i64 a, .int .i64 b] w fun e w' => e = .returned (.tuple #[.int .i64 0, .int .i64 0]) ∧ w = w' := by
  by_cases h1 : a = 0
  · subst h1
    clear h
    go_enter Try.func12, Try.ntmps12
    go_wp2_with fail
    go_ret2
    exact ⟨rfl, rfl⟩
  · obtain rfl : b = 0 := h.resolve_left h1
    clear h
    have h1b : (a == 0) = false := by rw [beq_eq_false_iff_ne]; exact h1
    go_enter Try.func12, Try.ntmps12
    go_wp2_with fail
    go_ret2
    exact ⟨rfl, rfl⟩
theorem Mul (a b : Int) (w : World) (ha : -9223372036854775808 ≤ a ∧ a ≤ 9223372036854775807) (hb : -9223372036854775808 ≤ b ∧ b ≤ 9223372036854775807) :
    Calls Try.prog 12 #[.int .i64 a, .int .i64 b] w fun e w' => e = .returned (.tuple #[.int .i64 (okV (a * b)), .int .i64 (okE (a * b))]) ∧ w = w' := by
  by_cases h0 : a = 0 ∨ b = 0
  · have e : a * b = 0 := by rcases h0 with rfl | rfl <;> simp
    rw [e]; exact Mul_zero a b w h0
  · have h1 : a ≠ 0 := fun k => h0 (.inl k)
    have h2 : b ≠ 0 := fun k => h0 (.inr k)
    by_cases h : -9223372036854775808 ≤ a * b ∧ a * b ≤ 9223372036854775807
    · rw [okV_in h, okE_in h]; exact Mul_in a b w ha hb h1 h2 h
    · rw [okV_out h, okE_out h]
      by_cases hm : wrap64 (a * b) = -9223372036854775808 ∧ a = -1
      · obtain ⟨k1, rfl⟩ := hm
        obtain rfl : b = -9223372036854775808 := by unfold wrap64 at k1; omega
        exact Mul_turn w
      · exact Mul_out a b w ha h1 h2 h hm

theorem RMul_zero (a b : Int) (w : World) (h : a = 0 ∨ b = 0) :
    Calls Try.prog 13 #[.int .i64 a, .int .i64 b] w fun e w' => e = .returned (.tuple #[.int .i64 0, .int .i64 0]) ∧ w = w' := by
  by_cases h1 : a = 0
  · subst h1
    clear h
    go_enter Try.func13, Try.ntmps13
    go_wp2_with fail
    go_ret2
    exact ⟨rfl, rfl⟩
  · obtain rfl : b = 0 := h.resolve_left h1
    clear h
    have h1b : (a == 0) = false := by rw [beq_eq_false_iff_ne]; exact h1
    go_enter Try.func13, Try.ntmps13
    go_wp2_with fail
    go_ret2
    exact ⟨rfl, rfl⟩
theorem RMul_turn (a b : Int) (w : World) (h : a = -1 ∧ b = -9223372036854775808 ∨ b = -1 ∧ a = -9223372036854775808) :
    Calls Try.prog 13 #[.int .i64 a, .int .i64 b] w fun e w' => e = .returned (.tuple #[.int .i64 0, .int .i64 2]) ∧ w = w' := by
  rcases h with ⟨rfl, rfl⟩ | ⟨rfl, rfl⟩
  · go_enter Try.func13, Try.ntmps13
    go_wp2_with fail
    go_ret2
    exact ⟨rfl, rfl⟩
  · go_enter Try.func13, Try.ntmps13
    go_wp2_with fail
    go_ret2
    exact ⟨rfl, rfl⟩
theorem RMul_left (b : Int) (w : World) (hb : -9223372036854775808 ≤ b ∧ b ≤ 9223372036854775807) (h2 : b ≠ 0) (k1 : b ≠ -9223372036854775808) :
    Calls Try.prog 13 #[.int .i64 (-1), .int .i64 b] w fun e w' => e = .returned (.tuple #[.int .i64 (-b), .int .i64 0]) ∧ w = w' := by
  have h2b : (b == 0) = false := by rw [beq_eq_false_iff_ne]; exact h2
  have kb : (b == -9223372036854775808) = false := by rw [beq_eq_false_iff_ne]; exact k1
  have hd : (-b).tdiv b = -1 := by rw [Int.neg_tdiv, Int.tdiv_self h2]
  have hd2 : b.tdiv b = 1 := Int.tdiv_self h2
  go_enter Try.func13, Try.ntmps13
  go_wp2_with fail
  all_goals (go_ret2; first | exact ⟨rfl, rfl⟩ | (subst_vars; exact ⟨rfl, rfl⟩))
theorem RMul_right (a : Int) (w : World) (ha : -9223372036854775808 ≤ a ∧ a ≤ 9223372036854775807) (h1 : a ≠ 0) (k1 : a ≠ -9223372036854775808) :
    Calls Try.prog 13 #[.int .i64 a, .int .i64 (-1)] w fun e w' => e = .returned (.tuple #[.int .i64 (-a), .int .i64 0]) ∧ w = w' := by
  have h1b : (a == 0) = false := by rw [beq_eq_false_iff_ne]; exact h1
  have kb : (a == -9223372036854775808) = false := by rw [beq_eq_false_iff_ne]; exact k1
  have hd : (-a).tdiv (-1) = a := by rw [Int.neg_tdiv_neg, Int.tdiv_one]
  go_enter Try.func13, Try.ntmps13
  go_wp2_with fail
  all_goals (go_ret2; first | exact ⟨rfl, rfl⟩ | (subst_vars; exact ⟨rfl, rfl⟩))
/-- Two factors other than 0 and -1: what the wrapped product divides back to decides. -/
theorem RMul_yes (a b : Int) (w : World) (ha : -9223372036854775808 ≤ a ∧ a ≤ 9223372036854775807) (h1 : a ≠ 0) (h2 : b ≠ 0) (k1 : a ≠ -1) (k2 : b ≠ -1) (hq : (wrap64 (a * b)).tdiv b = a) :
    Calls Try.prog 13 #[.int .i64 a, .int .i64 b] w fun e w' => e = .returned (.tuple #[.int .i64 (wrap64 (a * b)), .int .i64 0]) ∧ w = w' := by
  have h1b : (a == 0) = false := by rw [beq_eq_false_iff_ne]; exact h1
  have h2b : (b == 0) = false := by rw [beq_eq_false_iff_ne]; exact h2
  have k1b : (a == -1) = false := by rw [beq_eq_false_iff_ne]; exact k1
  have k2b : (b == -1) = false := by rw [beq_eq_false_iff_ne]; exact k2
  have hw : wrap64 a = a := IntWalk.wrap64_in _ ha
  go_enter Try.func13, Try.ntmps13
  go_wp2_with fail
  all_goals (go_ret2; first | exact ⟨rfl, rfl⟩ | (subst_vars; exact ⟨rfl, rfl⟩))
theorem RMul_no (a b : Int) (w : World) (h1 : a ≠ 0) (h2 : b ≠ 0) (k1 : a ≠ -1) (k2 : b ≠ -1) (hq : (wrap64 (a * b)).tdiv b ≠ a) :
    Calls Try.prog 13 #[.int .i64 a, .int .i64 b] w fun e w' => e = .returned (.tuple #[.int .i64 0, .int .i64 2]) ∧ w = w' := by
  have h1b : (a == 0) = false := by rw [beq_eq_false_iff_ne]; exact h1
  have h2b : (b == 0) = false := by rw [beq_eq_false_iff_ne]; exact h2
  have k1b : (a == -1) = false := by rw [beq_eq_false_iff_ne]; exact k1
  have k2b : (b == -1) = false := by rw [beq_eq_false_iff_ne]; exact k2
  have hf : -9223372036854775808 ≤ wrap64 (a * b) ∧ wrap64 (a * b) ≤ 9223372036854775807 := by unfold wrap64; omega
  have hz := tdiv_fits hf h2 (fun k => k2 k.2)
  have hqb : ((wrap64 (a * b)).tdiv b == a) = false := by rw [beq_eq_false_iff_ne]; exact hq
  clear hf
  go_enter Try.func13, Try.ntmps13
  go_wp2_with fail
  all_goals (go_ret2; first | exact ⟨rfl, rfl⟩ | (subst_vars; exact ⟨rfl, rfl⟩))
theorem RMul (a b : Int) (w : World) (ha : -9223372036854775808 ≤ a ∧ a ≤ 9223372036854775807) (hb : -9223372036854775808 ≤ b ∧ b ≤ 9223372036854775807) :
    Calls Try.prog 13 #[.int .i64 a, .int .i64 b] w fun e w' => e = .returned (.tuple #[.int .i64 (okV (a * b)), .int .i64 (okE (a * b))]) ∧ w = w' := by
  by_cases h0 : a = 0 ∨ b = 0
  · have e : a * b = 0 := by rcases h0 with rfl | rfl <;> simp
    rw [e]; exact RMul_zero a b w h0
  have h1 : a ≠ 0 := fun k => h0 (.inl k)
  have h2 : b ≠ 0 := fun k => h0 (.inr k)
  by_cases ht : a = -1 ∧ b = -9223372036854775808 ∨ b = -1 ∧ a = -9223372036854775808
  · have e : ¬ (-9223372036854775808 ≤ a * b ∧ a * b ≤ 9223372036854775807) := by rcases ht with ⟨rfl, rfl⟩ | ⟨rfl, rfl⟩ <;> omega
    rw [okV_out e, okE_out e]; exact RMul_turn a b w ht
  by_cases k1 : a = -1
  · subst k1
    have g : b ≠ -9223372036854775808 := fun k => ht (.inl ⟨rfl, k⟩)
    have f : -9223372036854775808 ≤ -1 * b ∧ -1 * b ≤ 9223372036854775807 := by omega
    rw [okV_in f, okE_in f, Int.neg_one_mul]; exact RMul_left b w hb h2 g
  by_cases k2 : b = -1
  · subst k2
    have g : a ≠ -9223372036854775808 := fun k => ht (.inr ⟨rfl, k⟩)
    have f : -9223372036854775808 ≤ a * -1 ∧ a * -1 ≤ 9223372036854775807 := by omega
    rw [okV_in f, okE_in f, Int.mul_neg_one]; exact RMul_right a w ha h1 g
  by_cases h : -9223372036854775808 ≤ a * b ∧ a * b ≤ 9223372036854775807
  · have e := IntWalk.wrap64_in _ h
    have hq : (wrap64 (a * b)).tdiv b = a := by rw [e, Int.mul_comm]; exact Int.mul_tdiv_cancel_left a h2
    have c := RMul_yes a b w ha h1 h2 k1 k2 hq
    rw [e] at c
    rw [okV_in h, okE_in h]; exact c
  · rw [okV_out h, okE_out h]
    refine RMul_no a b w h1 h2 k1 k2 (fun hq => h ?_)
    have c := mul_back (a := b) (b := a) hb h2
    rw [Int.mul_comm b a] at c
    exact c hq

theorem Neg (a : Int) (w : World) (ha : -9223372036854775808 ≤ a ∧ a ≤ 9223372036854775807) :
    Calls Try.prog 18 #[.int .i64 a] w fun e w' => e = .returned (.tuple #[.int .i64 (okV (-a)), .int .i64 (okE (-a))]) ∧ w = w' := by
  go_enter Try.func18, Try.ntmps18
  go_wp2_with fail
  refine (Sub 0 a _ (by omega) ha).mono ?_
  rintro e w1 ⟨rfl, rfl⟩
  go_wp2_with fail
  go_ret2
  exact ⟨rfl, rfl⟩
theorem RNeg (a : Int) (w : World) (ha : -9223372036854775808 ≤ a ∧ a ≤ 9223372036854775807) :
    Calls Try.prog 19 #[.int .i64 a] w fun e w' => e = .returned (.tuple #[.int .i64 (okV (-a)), .int .i64 (okE (-a))]) ∧ w = w' := by
  go_enter Try.func19, Try.ntmps19
  go_wp2_with fail
  refine (RSub 0 a _ (by omega) ha).mono ?_
  rintro e w1 ⟨rfl, rfl⟩
  go_wp2_with fail
  go_ret2
  exact ⟨rfl, rfl⟩

theorem Parts_bad (n d : Int) (w : World) (h : n < 0 ∨ d < 1) :
    Calls Try.prog 25 #[.int .i64 n, .int .i64 d] w fun e w' => e = .returned (.tuple #[.int .i64 0, .int .i64 1]) ∧ w = w' := by
  by_cases h1 : n < 0
  · clear h
    go_enter Try.func25, Try.ntmps25
    go_wp2_with fail
    go_ret2
    exact ⟨rfl, rfl⟩
  · have h2 := h.resolve_left h1
    clear h
    go_enter Try.func25, Try.ntmps25
    go_wp2_with fail
    go_ret2
    exact ⟨rfl, rfl⟩
theorem Parts_in (n d : Int) (w : World) (h0 : 0 ≤ n) (h1 : n ≤ 9223372036854775807) (h2 : 1 ≤ d) :
    Calls Try.prog 25 #[.int .i64 n, .int .i64 d] w fun e w' => e = .returned (.tuple #[.int .i64 (partsV n d), .int .i64 0]) ∧ w = w' := by
  have hq := IntWalk.tdiv_le n d h0 h2
  unfold partsV
  by_cases hm : n % d = 0
  · rw [if_pos hm]
    have hb : (n % d == 0) = true := beq_iff_eq.2 hm
    have hc : ¬ 0 < n % d := by omega
    clear hm
    go_enter Try.func25, Try.ntmps25
    go_wp2_with fail
    all_goals (go_ret2; exact ⟨rfl, rfl⟩)
  · rw [if_neg hm]
    have hz := parts_fits h0 h1 h2 hm
    have hb : (n % d == 0) = false := beq_eq_false_iff_ne.2 hm
    have hc : 0 < n % d := by have := Int.emod_nonneg n (show d ≠ 0 by omega); omega
    clear hm
    go_enter Try.func25, Try.ntmps25
    go_wp2_with fail
    all_goals (go_ret2; exact ⟨rfl, rfl⟩)

theorem RParts_bad (n d : Int) (w : World) (h : n < 0 ∨ d < 1) :
    Calls Try.prog 26 #[.int .i64 n, .int .i64 d] w fun e w' => e = .returned (.tuple #[.int .i64 0, .int .i64 1]) ∧ w = w' := by
  by_cases h1 : n < 0
  · clear h
    go_enter Try.func26, Try.ntmps26
    go_wp2_with fail
    go_ret2
    exact ⟨rfl, rfl⟩
  · have h2 := h.resolve_left h1
    clear h
    go_enter Try.func26, Try.ntmps26
    go_wp2_with fail
    go_ret2
    exact ⟨rfl, rfl⟩
theorem RParts_in (n d : Int) (w : World) (h0 : 0 ≤ n) (h1 : n ≤ 9223372036854775807) (h2 : 1 ≤ d) :
    Calls Try.prog 26 #[.int .i64 n, .int .i64 d] w fun e w' => e = .returned (.tuple #[.int .i64 (partsV n d), .int .i64 0]) ∧ w = w' := by
  have hq := IntWalk.tdiv_le n d h0 h2
  unfold partsV
  by_cases hm : n % d = 0
  · rw [if_pos hm]
    have hb : (n % d == 0) = true := beq_iff_eq.2 hm
    have hc : ¬ 0 < n % d := by omega
    clear hm
    go_enter Try.func26, Try.ntmps26
    go_wp2_with fail
    all_goals (go_ret2; exact ⟨rfl, rfl⟩)
  · rw [if_neg hm]
    have hz := parts_fits h0 h1 h2 hm
    have hb : (n % d == 0) = false := beq_eq_false_iff_ne.2 hm
    have hc : 0 < n % d := by have := Int.emod_nonneg n (show d ≠ 0 by omega); omega
    clear hm
    go_enter Try.func26, Try.ntmps26
    go_wp2_with fail
    all_goals (go_ret2; exact ⟨rfl, rfl⟩)

/-- What is said of a slice of numbers that is not nil: each number lies in its cell and fits. -/
def Row (w : World) (b off len : Nat) (zs : List Int) : Prop :=
  zs.length = len ∧ len ≤ 9223372036854775807 ∧ (∀ j, j < len → w.cell? ⟨b, off + j, none⟩ = some (.int .i64 (zs.getD j 0))) ∧ ∀ z, z ∈ zs → -9223372036854775808 ≤ z ∧ z ≤ 9223372036854775807

theorem Sum_any (b off len cap : Nat) (zs : List Int) (w : World) (hr : Row w b off len zs) :
    Calls Try.prog 21 #[.slice (some ⟨b, off, none⟩) len cap] w fun e w' => e = .returned (.tuple #[.int .i64 (sumG 0 zs).1, .int .i64 (sumG 0 zs).2]) ∧ w = w' := by
  obtain ⟨hl, hm, hcs, hfs⟩ := hr
  have HL := Lib.hid hl; clear hl
  have HC := Lib.hid hcs; clear hcs
  have HF := Lib.hid hfs; clear hfs
  go_enter Try.func21, Try.ntmps21
  go_wp2_with fail
  go_loop [4, 11] (fun t i => ∃ (k : Nat) (s : Int), k ≤ len ∧ i = .int .i64 k ∧ t = .int .i64 s ∧ (-9223372036854775808 ≤ s ∧ s ≤ 9223372036854775807) ∧ sumG 0 zs = sumG s (zs.drop k)) (fun _ i => len - (intOf i).toNat)
  case atStart => exact ⟨0, 0, Nat.zero_le _, rfl, rfl, by omega, rfl⟩
  case round =>
    obtain ⟨k, s, hk, rfl, rfl, hs, hg⟩ := hrel
    have HG := Lib.hid hg; clear hg
    by_cases hlt : k < len
    · have hcell := HC.out k hlt
      have hz := HF.out _ (getD_mem zs (by rw [HL.out]; exact hlt))
      have e1 := fun h => sumG_in (s := s) (zs := zs) (k := k) (by rw [HL.out]; exact hlt) h
      have e2 := fun h => sumG_out (s := s) (zs := zs) (k := k) (by rw [HL.out]; exact hlt) h
      generalize zs.getD k 0 = z at *
      have E1 := Lib.hid e1; clear e1
      have E2 := Lib.hid e2; clear e2
      by_cases h : -9223372036854775808 ≤ s + z ∧ s + z ≤ 9223372036854775807
      · have hb : (okE (s + z) == 0) = true := by rw [okE_in h]; rfl
        go_wp2_with fail
        refine (Add s z _ hs hz).mono ?_
        rintro e w1 ⟨rfl, rfl⟩
        rw [okV_in h, okE_in h]
        go_wp2_with fail
        go_round
        case rel => exact ⟨k + 1, s + z, by omega, by go_num, rfl, h, by rw [HG.out, E1.out h]⟩
        case measure => simp [intOf]; omega
      · go_wp2_with fail
        refine (Add s z _ hs hz).mono ?_
        rintro e w1 ⟨rfl, rfl⟩
        rw [okV_out h, okE_out h]
        go_wp2_with fail
        go_ret2
        exact ⟨by rw [HG.out, E2.out h]; rfl, rfl⟩
    · go_wp2_with fail
      go_ret2
      refine ⟨?_, rfl⟩
      rw [HG.out, List.drop_of_length_le (by rw [HL.out]; omega)]
      rfl
theorem Sum_none (a : Option Addr) (cap : Nat) (w : World) :
    Calls Try.prog 21 #[.slice a 0 cap] w fun e w' => e = .returned (.tuple #[.int .i64 0, .int .i64 0]) ∧ w = w' := by
  go_enter Try.func21, Try.ntmps21
  go_wp2_with fail
  go_loop [4, 11] (fun t i => i = .int .i64 0 ∧ t = .int .i64 0) (fun _ _ => 0)
  case atStart => exact ⟨rfl, rfl⟩
  case round =>
    obtain ⟨rfl, rfl⟩ := hrel
    go_wp2_with fail
    go_ret2
    exact ⟨rfl, rfl⟩

theorem RSum_any (b off len cap : Nat) (zs : List Int) (w : World) (hr : Row w b off len zs) :
    Calls Try.prog 22 #[.slice (some ⟨b, off, none⟩) len cap] w fun e w' => e = .returned (.tuple #[.int .i64 (sumG 0 zs).1, .int .i64 (sumG 0 zs).2]) ∧ w = w' := by
  obtain ⟨hl, hm, hcs, hfs⟩ := hr
  have HL := Lib.hid hl; clear hl
  have HC := Lib.hid hcs; clear hcs
  have HF := Lib.hid hfs; clear hfs
  go_enter Try.func22, Try.ntmps22
  go_wp2_with fail
  go_loop [4, 5] (fun t i => ∃ (k : Nat) (s : Int), k ≤ len ∧ i = .int .i64 k ∧ t = .int .i64 s ∧ (-9223372036854775808 ≤ s ∧ s ≤ 9223372036854775807) ∧ sumG 0 zs = sumG s (zs.drop k)) (fun _ i => len - (intOf i).toNat)
  case atStart => exact ⟨0, 0, Nat.zero_le _, rfl, rfl, by omega, rfl⟩
  case round =>
    obtain ⟨k, s, hk, rfl, rfl, hs, hg⟩ := hrel
    have HG := Lib.hid hg; clear hg
    by_cases hlt : k < len
    · have hcell := HC.out k hlt
      have hz := HF.out _ (getD_mem zs (by rw [HL.out]; exact hlt))
      have e1 := fun h => sumG_in (s := s) (zs := zs) (k := k) (by rw [HL.out]; exact hlt) h
      have e2 := fun h => sumG_out (s := s) (zs := zs) (k := k) (by rw [HL.out]; exact hlt) h
      generalize zs.getD k 0 = z at *
      have E1 := Lib.hid e1; clear e1
      have E2 := Lib.hid e2; clear e2
      by_cases h : -9223372036854775808 ≤ s + z ∧ s + z ≤ 9223372036854775807
      · have hb : (okE (s + z) == 0) = true := by rw [okE_in h]; rfl
        go_wp2_with fail
        refine (RAdd s z _ hs hz).mono ?_
        rintro e w1 ⟨rfl, rfl⟩
        rw [okV_in h, okE_in h]
        go_wp2_with fail
        go_round
        case rel => exact ⟨k + 1, s + z, by omega, by go_num, rfl, h, by rw [HG.out, E1.out h]⟩
        case measure => simp [intOf]; omega
      · go_wp2_with fail
        refine (RAdd s z _ hs hz).mono ?_
        rintro e w1 ⟨rfl, rfl⟩
        rw [okV_out h, okE_out h]
        go_wp2_with fail
        go_ret2
        exact ⟨by rw [HG.out, E2.out h]; rfl, rfl⟩
    · go_wp2_with fail
      go_ret2
      refine ⟨?_, rfl⟩
      rw [HG.out, List.drop_of_length_le (by rw [HL.out]; omega)]
      rfl
theorem RSum_none (a : Option Addr) (cap : Nat) (w : World) :
    Calls Try.prog 22 #[.slice a 0 cap] w fun e w' => e = .returned (.tuple #[.int .i64 0, .int .i64 0]) ∧ w = w' := by
  go_enter Try.func22, Try.ntmps22
  go_wp2_with fail
  go_loop [4, 5] (fun t i => i = .int .i64 0 ∧ t = .int .i64 0) (fun _ _ => 0)
  case atStart => exact ⟨rfl, rfl⟩
  case round =>
    obtain ⟨rfl, rfl⟩ := hrel
    go_wp2_with fail
    go_ret2
    exact ⟨rfl, rfl⟩

theorem Most_any (b off len cap : Nat) (zs : List Int) (w : World) (hr : Row w b off (len + 1) zs) (hcap : len + 1 ≤ cap) :
    Calls Try.prog 23 #[.slice (some ⟨b, off, none⟩) (len + 1) cap] w fun e w' => e = .returned (.int .i64 (mostG (zs.getD 0 0) (zs.drop 1))) ∧ w = w' := by
  obtain ⟨hl, hm, hcs, hfs⟩ := hr
  have HL := Lib.hid hl; clear hl
  have HC := Lib.hid hcs; clear hcs
  clear hfs
  have hc0 : w.cell? ⟨b, off, none⟩ = some (.int .i64 (zs.getD 0 0)) := HC.out 0 (by omega)
  have ht : (((len : Int) + 1) == 0) = false := by rw [beq_eq_false_iff_ne]; omega
  generalize hz0 : zs.getD 0 0 = z0 at *
  clear hz0
  generalize hR : mostG z0 (zs.drop 1) = R
  have HR := Lib.hid hR; clear hR
  by_cases hc1 : cap = 1
  · obtain rfl : len = 0 := by omega
    subst hc1
    clear hcap ht
    go_enter Try.func23, Try.ntmps23
    go_wp2_with fail
    go_loop [3, 15] (fun t i => i = .int .i64 0 ∧ t = .int .i64 z0) (fun _ _ => 0)
    case atStart => exact ⟨rfl, rfl⟩
    case round =>
      obtain ⟨rfl, rfl⟩ := hrel
      go_wp2_with fail
      go_ret
      refine ⟨?_, rfl⟩
      rw [← HR.out, List.drop_of_length_le (by rw [HL.out]; omega)]
      rfl
  · go_enter Try.func23, Try.ntmps23
    go_wp2_with fail
    go_loop [3, 15] (fun t i => ∃ (k : Nat) (m : Int), k ≤ len ∧ i = .int .i64 k ∧ t = .int .i64 m ∧ R = mostG m (zs.drop (1 + k))) (fun _ i => len - (intOf i).toNat)
    case atStart => exact ⟨0, z0, Nat.zero_le _, rfl, rfl, HR.out.symm⟩
    case round =>
      obtain ⟨k, m, hk, rfl, rfl, hg⟩ := hrel
      have HG := Lib.hid hg; clear hg
      by_cases hlt : k < len
      · have hcell : w.cell? ⟨b, off + 1 + k, none⟩ = some (.int .i64 (zs.getD (1 + k) 0)) := by have := HC.out (1 + k) (by omega); rwa [← Nat.add_assoc] at this
        have e1 := mostG_at (m := m) (zs := zs) (k := 1 + k) (by rw [HL.out]; omega)
        generalize zs.getD (1 + k) 0 = z at *
        have E1 := Lib.hid e1; clear e1
        go_wp2_with fail
        go_round
        case rel => exact ⟨k + 1, if m < z then z else m, by omega, by go_num, rfl, by rw [HG.out, E1.out]; rfl⟩
        case measure => simp [intOf]; omega
      · go_wp2_with fail
        go_ret
        refine ⟨?_, rfl⟩
        rw [HG.out, List.drop_of_length_le (by rw [HL.out]; omega)]
        rfl
theorem RMost_any (b off len cap : Nat) (zs : List Int) (w : World) (hr : Row w b off (len + 1) zs) :
    Calls Try.prog 24 #[.slice (some ⟨b, off, none⟩) (len + 1) cap] w fun e w' => e = .returned (.int .i64 (mostG (zs.getD 0 0) (zs.drop 1))) ∧ w = w' := by
  obtain ⟨hl, hm, hcs, hfs⟩ := hr
  have HL := Lib.hid hl; clear hl
  have HC := Lib.hid hcs; clear hcs
  clear hfs
  have hc0 : w.cell? ⟨b, off, none⟩ = some (.int .i64 (zs.getD 0 0)) := HC.out 0 (by omega)
  have ht : (((len : Int) + 1) == 0) = false := by rw [beq_eq_false_iff_ne]; omega
  generalize hz0 : zs.getD 0 0 = z0 at *
  clear hz0
  generalize hR : mostG z0 (zs.drop 1) = R
  have HR := Lib.hid hR; clear hR
  go_enter Try.func24, Try.ntmps24
  go_wp2_with fail
  go_loop [3, 4] (fun t i => ∃ (k : Nat) (m : Int), k ≤ len ∧ i = .int .i64 (1 + k : Nat) ∧ t = .int .i64 m ∧ R = mostG m (zs.drop (1 + k))) (fun _ i => len + 1 - (intOf i).toNat)
  case atStart => exact ⟨0, z0, Nat.zero_le _, rfl, rfl, HR.out.symm⟩
  case round =>
    obtain ⟨k, m, hk, rfl, rfl, hg⟩ := hrel
    have HG := Lib.hid hg; clear hg
    by_cases hlt : k < len
    · have hcell : w.cell? ⟨b, off + (1 + k), none⟩ = some (.int .i64 (zs.getD (1 + k) 0)) := HC.out (1 + k) (by omega)
      have e1 := mostG_at (m := m) (zs := zs) (k := 1 + k) (by rw [HL.out]; omega)
      generalize zs.getD (1 + k) 0 = z at *
      have E1 := Lib.hid e1; clear e1
      go_wp2_with fail
      go_round
      case rel => exact ⟨k + 1, if m < z then z else m, by omega, by go_num, rfl, by rw [HG.out, E1.out]; rfl⟩
      case measure => simp [intOf]; omega
    · go_wp2_with fail
      go_ret
      refine ⟨?_, rfl⟩
      rw [HG.out, List.drop_of_length_le (by rw [HL.out]; omega)]
      rfl
theorem Most_none (a : Option Addr) (cap : Nat) (w : World) :
    Calls Try.prog 23 #[.slice a 0 cap] w fun e w' => e = .returned (.int .i64 0) ∧ w = w' := by
  go_enter Try.func23, Try.ntmps23
  go_wp2_with fail
  go_ret
  exact ⟨rfl, rfl⟩
theorem RMost_none (a : Option Addr) (cap : Nat) (w : World) :
    Calls Try.prog 24 #[.slice a 0 cap] w fun e w' => e = .returned (.int .i64 0) ∧ w = w' := by
  go_enter Try.func24, Try.ntmps24
  go_wp2_with fail
  go_ret
  exact ⟨rfl, rfl⟩

theorem Div (a b : Int) (w : World) (ha : -9223372036854775808 ≤ a ∧ a ≤ 9223372036854775807) :
    Calls Try.prog 14 #[.int .i64 a, .int .i64 b] w fun e w' => e = .returned (.tuple #[.int .i64 (divV a b), .int .i64 (divE a b)]) ∧ w = w' := by
  unfold divV divE
  by_cases h : b = 0
  · subst h; exact Div_zero a w
  by_cases k : a = -9223372036854775808 ∧ b = -1
  · rw [if_pos (.inr k), if_neg h, if_pos k]
    obtain ⟨rfl, rfl⟩ := k; exact Div_over w
  · rw [if_neg (not_or.2 ⟨h, k⟩), if_neg h, if_neg k]; exact Div_in a b w ha h k
theorem RDiv (a b : Int) (w : World) (ha : -9223372036854775808 ≤ a ∧ a ≤ 9223372036854775807) :
    Calls Try.prog 15 #[.int .i64 a, .int .i64 b] w fun e w' => e = .returned (.tuple #[.int .i64 (divV a b), .int .i64 (divE a b)]) ∧ w = w' := by
  unfold divV divE
  by_cases h : b = 0
  · subst h; exact RDiv_zero a w
  by_cases k : a = -9223372036854775808 ∧ b = -1
  · rw [if_pos (.inr k), if_neg h, if_pos k]
    obtain ⟨rfl, rfl⟩ := k; exact RDiv_over w
  · rw [if_neg (not_or.2 ⟨h, k⟩), if_neg h, if_neg k]; exact RDiv_in a b w ha h k
theorem Mod (a b : Int) (w : World) :
    Calls Try.prog 16 #[.int .i64 a, .int .i64 b] w fun e w' => e = .returned (.tuple #[.int .i64 (modV a b), .int .i64 (modE b)]) ∧ w = w' := by
  unfold modV modE
  by_cases h : b = 0
  · subst h; exact Mod_zero a w
  · rw [if_neg h, if_neg h]; exact Mod_in a b w h
theorem RMod (a b : Int) (w : World) :
    Calls Try.prog 17 #[.int .i64 a, .int .i64 b] w fun e w' => e = .returned (.tuple #[.int .i64 (modV a b), .int .i64 (modE b)]) ∧ w = w' := by
  unfold modV modE
  by_cases h : b = 0
  · subst h; exact RMod_zero a w
  · rw [if_neg h, if_neg h]; exact RMod_in a b w h
theorem Parts (n d : Int) (w : World) (h1 : n ≤ 9223372036854775807) :
    Calls Try.prog 25 #[.int .i64 n, .int .i64 d] w fun e w' => e = .returned (.tuple #[.int .i64 (partsW n d), .int .i64 (partsE n d)]) ∧ w = w' := by
  unfold partsW partsE
  by_cases h : n < 0 ∨ d < 1
  · rw [if_pos h, if_pos h]; exact Parts_bad n d w h
  · rw [if_neg h, if_neg h]
    have k := not_or.1 h
    exact Parts_in n d w (by omega) h1 (by omega)
theorem RParts (n d : Int) (w : World) (h1 : n ≤ 9223372036854775807) :
    Calls Try.prog 26 #[.int .i64 n, .int .i64 d] w fun e w' => e = .returned (.tuple #[.int .i64 (partsW n d), .int .i64 (partsE n d)]) ∧ w = w' := by
  unfold partsW partsE
  by_cases h : n < 0 ∨ d < 1
  · rw [if_pos h, if_pos h]; exact RParts_bad n d w h
  · rw [if_neg h, if_neg h]
    have k := not_or.1 h
    exact RParts_in n d w (by omega) h1 (by omega)
end Go.Proofs.Ytoncnpgeekcojaa.Num
