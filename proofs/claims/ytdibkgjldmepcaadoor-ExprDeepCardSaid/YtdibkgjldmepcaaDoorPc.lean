/- expr's levels and signs. -/
import Derived.Test.YtdibkgjldmepcaaDoorPa
namespace Go.Proofs.YtdibkgjldmepcaaDoor.Xp
open Go.RowKit Mem Lex Gen
set_option linter.unusedVariables false
set_option linter.unusedSimpArgs false

set_option maxHeartbeats 1000000 in
theorem xlevel_c (k : Int) (w : World) : Calls Tryd.prog 37 #[.int .i64 k] w fun e w' => e = .returned (.int .i64 (lev k)) ∧ w' = w := by
  go_enter Tryd.func37, Tryd.ntmps37
  go_wp2_with fail
  all_goals go_ret
  all_goals refine ⟨congrArg (fun x => Ending.returned (Value.int .i64 x)) ?_, rfl⟩
  all_goals simp only [beq_iff_eq, beq_eq_false_iff_ne, ne_eq] at *
  all_goals unfold lev
  all_goals repeat' split
  all_goals first | omega | rfl
/-- An operator's sign. -/
def sgT (k : Int) : Bytes := if 7 ≤ k then opT k else []
theorem opT_big {k : Int} (h : 20 ≤ k) : opT k = [] := by
  unfold opT
  rw [List.getD_eq_getElem?_getD, List.getElem?_eq_none (by have h2 : opL.length = 20 := rfl; omega)]; rfl
set_option maxHeartbeats 1000000 in
theorem sign_c (k : Int) (w : World) : Calls Tryd.prog 57 #[.int .i64 k] w fun e w' => e = .returned (.string (mk (sgT k))) ∧ w' = w := by
  go_enter Tryd.func57, Tryd.ntmps57
  go_wp2_with fail
  all_goals go_ret
  all_goals refine ⟨congrArg (fun x => Ending.returned (Value.string x)) ?_, rfl⟩
  all_goals simp only [beq_iff_eq, beq_eq_false_iff_ne, ne_eq] at *
  all_goals first | (subst k; rfl) | skip
  all_goals
    unfold sgT
    split
    · rw [opT_big (by omega)]; rfl
    · rfl
theorem sg_range {k : Int} {s : Bytes} (h7 : 7 ≤ k) (h19 : k ≤ 19) : (s == sgT k) = (signK s == k) := by
  have hk : k = 7 ∨ k = 8 ∨ k = 9 ∨ k = 10 ∨ k = 11 ∨ k = 12 ∨ k = 13 ∨ k = 14 ∨ k = 15 ∨ k = 16 ∨ k = 17 ∨ k = 18 ∨ k = 19 := by omega
  have hs : (s == sgT k) = true ↔ (signK s == k) = true := by
    rw [beq_iff_eq, beq_iff_eq]
    constructor
    · intro h
      rw [h]
      rcases hk with rfl | rfl | rfl | rfl | rfl | rfl | rfl | rfl | rfl | rfl | rfl | rfl | rfl <;> rfl
    · intro h
      unfold signK at h
      by_cases e7 : s = [42]
      · rw [if_pos e7] at h; rw [e7, ← h]; rfl
      rw [if_neg e7] at h
      by_cases e8 : s = [47]
      · rw [if_pos e8] at h; rw [e8, ← h]; rfl
      rw [if_neg e8] at h
      by_cases e9 : s = [37]
      · rw [if_pos e9] at h; rw [e9, ← h]; rfl
      rw [if_neg e9] at h
      by_cases e10 : s = [43]
      · rw [if_pos e10] at h; rw [e10, ← h]; rfl
      rw [if_neg e10] at h
      by_cases e11 : s = [45]
      · rw [if_pos e11] at h; rw [e11, ← h]; rfl
      rw [if_neg e11] at h
      by_cases e12 : s = [60]
      · rw [if_pos e12] at h; rw [e12, ← h]; rfl
      rw [if_neg e12] at h
      by_cases e13 : s = [60, 61]
      · rw [if_pos e13] at h; rw [e13, ← h]; rfl
      rw [if_neg e13] at h
      by_cases e14 : s = [62]
      · rw [if_pos e14] at h; rw [e14, ← h]; rfl
      rw [if_neg e14] at h
      by_cases e15 : s = [62, 61]
      · rw [if_pos e15] at h; rw [e15, ← h]; rfl
      rw [if_neg e15] at h
      by_cases e16 : s = [61, 61]
      · rw [if_pos e16] at h; rw [e16, ← h]; rfl
      rw [if_neg e16] at h
      by_cases e17 : s = [33, 61]
      · rw [if_pos e17] at h; rw [e17, ← h]; rfl
      rw [if_neg e17] at h
      by_cases e18 : s = [38, 38]
      · rw [if_pos e18] at h; rw [e18, ← h]; rfl
      rw [if_neg e18] at h
      by_cases e19 : s = [124, 124]
      · rw [if_pos e19] at h; rw [e19, ← h]; rfl
      rw [if_neg e19] at h
      omega
  cases h1 : (s == sgT k) <;> cases h2 : (signK s == k) <;> simp_all
theorem signK_range (s : Bytes) : signK s = 0 ∨ 7 ≤ signK s ∧ signK s ≤ 19 := by
  unfold signK
  repeat' split
  all_goals omega
set_option maxHeartbeats 1000000 in
theorem binary_c (t : Tok) (w : World) : Calls Tryd.prog 53 #[tokV t] w fun e w' => e = .returned (.int .i64 (binK t)) ∧ Foot (fun _ => False) w w' := by
  have SG := fun (k : Int) W => sign_c k W
  have IS := fun (k : Int) W => isSign_c t (mk (sgT k)) W
  have HB := Lib.hid (signK_range t.text)
  have HE : Hid (∀ k : Int, 7 ≤ k → k ≤ 19 → isS t (bs (mk (sgT k))) = (binK t == k)) := Lib.hid fun k h7 h19 => by
    rw [bs_mk]
    unfold isS binK
    by_cases h : t.kind = 3
    · rw [if_pos h, sg_range h7 h19, h]; rfl
    · rw [if_neg h, show (t.kind == 3) = false by rw [beq_eq_false_iff_ne]; exact h, Bool.false_and]
      symm
      rw [beq_eq_false_iff_ne]; omega
  have HR : Hid (binK t = 0 ∨ 7 ≤ binK t ∧ binK t ≤ 19) := Lib.hid (by unfold binK; split; exact HB.out; exact .inl rfl)
  have HF := Lib.hid ((Foot.refl (fun _ => False) w).alloc (.cells #[.int .i64 t.kind, .int .i64 t.at_, .int .i64 t.en, .string (mk t.text), .int .i64 t.n] 72))
  obtain ⟨c0, c1, c2, c3, c4⟩ := cells5 (At.new w 72 #[.int .i64 t.kind, .int .i64 t.at_, .int .i64 t.en, .string (mk t.text), .int .i64 t.n])
  clear HB
  unfold tokV at IS ⊢
  rw [strV_mk] at *
  go_enter Tryd.func53, Tryd.ntmps53
  go_wp2_with fail
  generalize w.alloc (.cells #[.int .i64 t.kind, .int .i64 t.at_, .int .i64 t.en, .string (mk t.text), .int .i64 t.n] 72) = W1 at *
  go_loopw [3] (fun k wr => ∃ m : Int, k = .int .i64 m ∧ 7 ≤ m ∧ m ≤ 20 ∧ (binK t = 0 ∨ m ≤ binK t) ∧ Hid (Foot (fun _ => False) W1 wr)) (fun k _ => (20 - (intOf k)).toNat)
  case atStart => exact ⟨7, rfl, by omega, by omega, by have := HR.out; omega, Lib.hid (Foot.refl _ _)⟩
  case round =>
    obtain ⟨m, rfl, h7, h20, hb, HFr⟩ := hrel
    have d0 := c0
    have d1 := c1
    have d2 := c2
    have d3 := c3
    have d4 := c4
    have c0 := hold HFr.out c0
    have c1 := hold HFr.out c1
    have c2 := hold HFr.out c2
    have c3 := hold HFr.out c3
    have c4 := hold HFr.out c4
    by_cases hm : m ≤ 19
    · have SGm := fun W => SG m W
      have ISm := fun W => IS m W
      rw [HE.out m h7 hm] at ISm
      have hwm : IntKind.i64.wrap (m + 1) = m + 1 := by rw [IntKind.wrap_i64]; omega
      clear SG IS
      cases hx : (binK t == m) with
      | true =>
        rw [hx] at ISm
        rw [beq_iff_eq] at hx
        go_wp2_with fail
        have KEEP : ∀ w' : World, Hid (Foot (fun _ => False) W1 w') → (w'.cell? ⟨w.heap.size, 0, none⟩ = some (.int .i64 t.kind) ∧ w'.cell? ⟨w.heap.size, 1, none⟩ = some (.int .i64 t.at_) ∧ w'.cell? ⟨w.heap.size, 2, none⟩ = some (.int .i64 t.en) ∧ w'.cell? ⟨w.heap.size, 3, none⟩ = some (.string (mk t.text)) ∧ w'.cell? ⟨w.heap.size, 4, none⟩ = some (.int .i64 t.n) ∧ Hid (Foot (fun _ => False) W1 w')) := fun w' h => ⟨hold h.out d0, hold h.out d1, hold h.out d2, hold h.out d3, hold h.out d4, h⟩
        have HW : Hid (Foot (fun _ => False) W1 wr.drew) := Lib.hid HFr.out.drew
        go_region_held3 (fun w' => w'.cell? ⟨w.heap.size, 0, none⟩ = some (.int .i64 t.kind) ∧ w'.cell? ⟨w.heap.size, 1, none⟩ = some (.int .i64 t.at_) ∧ w'.cell? ⟨w.heap.size, 2, none⟩ = some (.int .i64 t.en) ∧ w'.cell? ⟨w.heap.size, 3, none⟩ = some (.string (mk t.text)) ∧ w'.cell? ⟨w.heap.size, 4, none⟩ = some (.int .i64 t.n) ∧ Hid (Foot (fun _ => False) W1 w'))
          (exact KEEP _ (by assumption))
          (first
            | (go_at_call 57; (with_reducible refine (SGm _).mono ?_); rintro e wt ⟨rfl, rfl⟩)
            | (go_at_call 66; (with_reducible refine (ISm _).mono ?_); rintro e wk ⟨rfl, hFk⟩; have Ek := holdF hFk (by assumption : Hid (Foot (fun _ => False) W1 _))))
        go_wp2_with fail
        go_ret
        exact ⟨by rw [hx]; rfl, HF.out.trans Ek.out fun _ _ h => h⟩
      | false =>
        rw [hx] at ISm
        rw [beq_eq_false_iff_ne] at hx
        go_wp2_with fail
        have KEEP : ∀ w' : World, Hid (Foot (fun _ => False) W1 w') → (w'.cell? ⟨w.heap.size, 0, none⟩ = some (.int .i64 t.kind) ∧ w'.cell? ⟨w.heap.size, 1, none⟩ = some (.int .i64 t.at_) ∧ w'.cell? ⟨w.heap.size, 2, none⟩ = some (.int .i64 t.en) ∧ w'.cell? ⟨w.heap.size, 3, none⟩ = some (.string (mk t.text)) ∧ w'.cell? ⟨w.heap.size, 4, none⟩ = some (.int .i64 t.n) ∧ Hid (Foot (fun _ => False) W1 w')) := fun w' h => ⟨hold h.out d0, hold h.out d1, hold h.out d2, hold h.out d3, hold h.out d4, h⟩
        have HW : Hid (Foot (fun _ => False) W1 wr.drew) := Lib.hid HFr.out.drew
        go_region_held3 (fun w' => w'.cell? ⟨w.heap.size, 0, none⟩ = some (.int .i64 t.kind) ∧ w'.cell? ⟨w.heap.size, 1, none⟩ = some (.int .i64 t.at_) ∧ w'.cell? ⟨w.heap.size, 2, none⟩ = some (.int .i64 t.en) ∧ w'.cell? ⟨w.heap.size, 3, none⟩ = some (.string (mk t.text)) ∧ w'.cell? ⟨w.heap.size, 4, none⟩ = some (.int .i64 t.n) ∧ Hid (Foot (fun _ => False) W1 w'))
          (exact KEEP _ (by assumption))
          (first
            | (go_at_call 57; (with_reducible refine (SGm _).mono ?_); rintro e wt ⟨rfl, rfl⟩)
            | (go_at_call 66; (with_reducible refine (ISm _).mono ?_); rintro e wk ⟨rfl, hFk⟩; have Ek := holdF hFk (by assumption : Hid (Foot (fun _ => False) W1 _))))
        go_wp2_with fail
        go_roundw
        case rel => exact ⟨m + 1, by go_num, by omega, by omega, by omega, Ek⟩
        case measure => simp [intOf]; omega
    · have hb0 : binK t = 0 := by have := HR.out; omega
      go_wp2_with fail
      go_ret
      exact ⟨rfl, HF.out.trans HFr.out fun _ _ h => h⟩
end Go.Proofs.YtdibkgjldmepcaaDoor.Xp
