/- expr's reader: what it asks of a token. -/
import Derived.Test.YtdibkgjldmepcaaDoorPs
import Derived.Deep.QuietTactic
import Derived.BigQuiet
namespace Go.Proofs.YtdibkgjldmepcaaDoor.Xp
open Go.RowKit Mem Lex Gen
set_option linter.unusedVariables false
set_option linter.unusedSimpArgs false

theorem str_eq (a b : ByteArray) : (a.toList == b.toList) = (bs a == bs b) := by rw [toList_bs, toList_bs]
theorem isSign_c (t : Tok) (s : ByteArray) (w : World) : Calls Tryd.prog 66 #[tokV t, .string s] w fun e w' => e = .returned (.bool (isS t (bs s))) ∧ Foot (fun _ => False) w w' := by
  have HF := Lib.hid ((Foot.refl (fun _ => False) w).alloc (.cells #[.int .i64 t.kind, .int .i64 t.at_, .int .i64 t.en, .string (mk t.text), .int .i64 t.n] 72))
  unfold tokV isS
  rw [strV_mk]
  have hk : (bs (mk t.text) == bs s) = (t.text == bs s) := rfl
  by_cases h : t.kind = 3
  · have h1 : (t.kind == 3) = true := by rw [h]; rfl
    rw [h1, Bool.true_and, ← hk, ← str_eq]
    clear h hk
    go_enter Tryd.func66, Tryd.ntmps66
    go_wp2_with fail
    go_ret
    exact ⟨rfl, HF.out⟩
  · have h1 : (t.kind == 3) = false := by rw [beq_eq_false_iff_ne]; exact h
    rw [h1, Bool.false_and]
    clear h hk
    go_enter Tryd.func66, Tryd.ntmps66
    go_wp2_with fail
    go_ret
    exact ⟨rfl, HF.out⟩
theorem isWord_c (t : Tok) (s : ByteArray) (w : World) : Calls Tryd.prog 76 #[tokV t, .string s] w fun e w' => e = .returned (.bool (isW t (bs s))) ∧ Foot (fun _ => False) w w' := by
  have HF := Lib.hid ((Foot.refl (fun _ => False) w).alloc (.cells #[.int .i64 t.kind, .int .i64 t.at_, .int .i64 t.en, .string (mk t.text), .int .i64 t.n] 72))
  unfold tokV isW
  rw [strV_mk]
  have hk : (bs (mk t.text) == bs s) = (t.text == bs s) := rfl
  by_cases h : t.kind = 1
  · have h1 : (t.kind == 1) = true := by rw [h]; rfl
    rw [h1, Bool.true_and, ← hk, ← str_eq]
    clear h hk
    go_enter Tryd.func76, Tryd.ntmps76
    go_wp2_with fail
    go_ret
    exact ⟨rfl, HF.out⟩
  · have h1 : (t.kind == 1) = false := by rw [beq_eq_false_iff_ne]; exact h
    rw [h1, Bool.false_and]
    clear h hk
    go_enter Tryd.func76, Tryd.ntmps76
    go_wp2_with fail
    go_ret
    exact ⟨rfl, HF.out⟩
theorem isName_c (t : Tok) (w : World) : Calls Tryd.prog 78 #[tokV t] w fun e w' => e = .returned (.bool (isN t)) ∧ Foot (fun _ => False) w w' := by
  have HF := Lib.hid ((Foot.refl (fun _ => False) w).alloc (.cells #[.int .i64 t.kind, .int .i64 t.at_, .int .i64 t.en, .string (mk t.text), .int .i64 t.n] 72))
  have HR := fun W => reserved_c (mk t.text) W
  rw [bs_mk] at HR
  unfold tokV isN
  rw [strV_mk]
  by_cases h : t.kind = 1
  · have h1 : (t.kind == 1) = true := by rw [h]; rfl
    rw [h1, Bool.true_and]
    clear h
    go_enter Tryd.func78, Tryd.ntmps78
    go_wp2_with (go_at_call 69; refine (HR _).mono ?_; rintro e w' ⟨rfl, rfl⟩)
    go_ret
    exact ⟨rfl, HF.out⟩
  · have h1 : (t.kind == 1) = false := by rw [beq_eq_false_iff_ne]; exact h
    rw [h1, Bool.false_and]
    clear h
    go_enter Tryd.func78, Tryd.ntmps78
    go_wp2_with fail
    go_ret
    exact ⟨rfl, HF.out⟩
theorem unexpected_c (t : Tok) (w : World) : Calls Tryd.prog 80 #[tokV t] w fun e w' => e = .returned (.agg #[.int .i64 (badT t).1, .int .i64 (badT t).2]) ∧ Foot (fun _ => False) w w' := by
  have HF := Lib.hid (fun cs => ((Foot.refl (fun _ => False) w).alloc (.cells #[.int .i64 t.kind, .int .i64 t.at_, .int .i64 t.en, .string (mk t.text), .int .i64 t.n] 72)).alloc (.cells cs 47))
  unfold badT
  unfold tokV
  rw [strV_mk]
  by_cases h : t.kind = 4
  · have h1 : (t.kind == 4) = true := by rw [h]; rfl
    simp only [if_pos h]
    clear h
    go_enter Tryd.func80, Tryd.ntmps80
    go_wp2_with fail
    refine bodyPost_ret (v := .agg #[.int .i64 12, .int .i64 t.at_]) (by simp [results, Tryd.results80, go_sem, *]) rfl ⟨rfl, HF.out _⟩
  · have h1 : (t.kind == 4) = false := by rw [beq_eq_false_iff_ne]; exact h
    simp only [if_neg h]
    clear h
    go_enter Tryd.func80, Tryd.ntmps80
    go_wp2_with fail
    refine bodyPost_ret (v := .agg #[.int .i64 11, .int .i64 t.at_]) (by simp [results, Tryd.results80, go_sem, *]) rfl ⟨rfl, HF.out _⟩
end Go.Proofs.YtdibkgjldmepcaaDoor.Xp
