/- expr's reader: enter, take, takeName, inside. -/
import Derived.Test.YtdibkgjldmepcaaDoorPb
namespace Go.Proofs.YtdibkgjldmepcaaDoor.Xp
open Go.RowKit Mem Lex Gen
set_option linter.unusedVariables false
set_option linter.unusedSimpArgs false

set_option maxHeartbeats 1000000 in
set_option maxRecDepth 100000 in
theorem take_c (R : Nat) (v : Value) (ts : List Tok) (i o : Nat) (s : ByteArray) (w : World) (h : Rd w R v ts i o) (hi : i < ts.length) :
    Calls Tryd.prog 91 #[.pointer (some ⟨R, 0, none⟩), .string s] w fun e w' =>
      (if isS ts[i] (bs s) then e = .returned (.agg #[.int .i64 0, .int .i64 0]) ∧ Rd w' R v ts (i + 1) o else e = .returned (.agg #[.int .i64 (badT ts[i]).1, .int .i64 (badT ts[i]).2]) ∧ Rd w' R v ts i o) ∧ Foot (fun k => k = R) w w' := by
  have S0 := (St.start h).alloc #[.int .i64 0, .int .i64 0] 47
  have NX := fun W hW => next_c R v ts i o W hW hi
  have IS := fun W => isSign_c ts[i] s W
  have UN := fun W => unexpected_c ts[i] W
  have hw1 : IntKind.i64.wrap ((i : Int) + 1) = ((i + 1 : Nat) : Int) := by have := h.few; rw [IntKind.wrap_i64]; omega
  generalize ts[i] = t at *
  unfold tokV at NX IS UN
  rw [strV_mk] at NX IS UN
  obtain ⟨a, c, rfl⟩ := h.shape
  have S0 := Lib.hid S0
  cases hb : isS t (bs s) with
  | true =>
    rw [hb] at IS
    simp only [if_true]
    clear h UN hb
    go_enter Tryd.func91, Tryd.ntmps91
    go_wp2_with fail
    generalize w.alloc (.cells #[.int .i64 0, .int .i64 0] 47) = W1 at *
    refine (NX _ S0.out.rd).mono ?_
    rintro e w1 ⟨rfl, hf⟩
    have S1 := Lib.hid ((S0.out.still hf).alloc #[.int .i64 t.kind, .int .i64 t.at_, .int .i64 t.en, .string (mk t.text), .int .i64 t.n] 72)
    clear hf S0
    go_wp2_with fail
    generalize w1.alloc (.cells #[.int .i64 t.kind, .int .i64 t.at_, .int .i64 t.en, .string (mk t.text), .int .i64 t.n] 72) = W2 at *
    refine (IS _).mono ?_
    rintro e w3 ⟨rfl, hf⟩
    have S3 := S1.out.still hf
    obtain ⟨r0, r1, r2⟩ := cells3 S3.rd.rd
    have f1 := S3.rd.rd.free 1
    have hlt := S3.lt
    have HV := S3.var 1 rfl
    obtain ⟨l0, l1⟩ := cells2 HV.1
    have g0 := HV.1.free 0
    have g1 := HV.1.free 1
    have S4 := Lib.hid ((S3.inc).set2 1 rfl (.int .i64 0) (.int .i64 0))
    clear hf S1 S3 HV
    go_wp2_with fail
    refine bodyPost_ret (v := .agg #[.int .i64 0, .int .i64 0]) (by simp [results, Tryd.results91, go_sem, *]) rfl ⟨⟨rfl, S4.out.rd⟩, S4.out.foot⟩
  | false =>
    rw [hb] at IS
    simp only [Bool.false_eq_true, if_false]
    clear h hb
    go_enter Tryd.func91, Tryd.ntmps91
    go_wp2_with fail
    generalize w.alloc (.cells #[.int .i64 0, .int .i64 0] 47) = W1 at *
    refine (NX _ S0.out.rd).mono ?_
    rintro e w1 ⟨rfl, hf⟩
    have S1 := Lib.hid ((S0.out.still hf).alloc #[.int .i64 t.kind, .int .i64 t.at_, .int .i64 t.en, .string (mk t.text), .int .i64 t.n] 72)
    clear hf S0
    go_wp2_with fail
    generalize w1.alloc (.cells #[.int .i64 t.kind, .int .i64 t.at_, .int .i64 t.en, .string (mk t.text), .int .i64 t.n] 72) = W2 at *
    obtain ⟨t0, t1, t2, t3, t4⟩ := cells5 (S1.out.var 0 rfl).1
    refine (IS _).mono ?_
    rintro e w3 ⟨rfl, hf⟩
    have S3 := Lib.hid (S1.out.still hf)
    obtain ⟨t0, t1, t2, t3, t4⟩ := cells5 (S3.out.var 0 rfl).1
    clear hf S1
    go_wp2_with fail
    refine (UN _).mono ?_
    rintro e w4 ⟨rfl, hf⟩
    have S4 := S3.out.still hf
    have HV := S4.var 1 rfl
    obtain ⟨l0, l1⟩ := cells2 HV.1
    have g0 := HV.1.free 0
    have g1 := HV.1.free 1
    have S5 := Lib.hid (S4.set2 1 rfl (.int .i64 (badT t).1) (.int .i64 (badT t).2))
    clear hf S3 S4 HV
    go_wp2_with fail
    refine bodyPost_ret (v := .agg #[.int .i64 (badT t).1, .int .i64 (badT t).2]) (by simp [results, Tryd.results91, go_sem, *]) rfl ⟨⟨rfl, S5.out.rd⟩, S5.out.foot⟩

set_option maxHeartbeats 1000000 in
set_option maxRecDepth 100000 in
theorem takeName_c (R : Nat) (v : Value) (ts : List Tok) (i o : Nat) (w : World) (h : Rd w R v ts i o) (hi : i < ts.length) (hs : ts[i].text.length ≤ 281474976710656) :
    Calls Tryd.prog 79 #[.pointer (some ⟨R, 0, none⟩)] w fun e w' =>
      (if isN ts[i] then e = .returned (.tuple #[.string (mk ts[i].text), .agg #[.int .i64 0, .int .i64 0]]) ∧ Rd w' R v ts (i + 1) o
       else e = .returned (.tuple #[.string ⟨#[]⟩, .agg #[.int .i64 (badT ts[i]).1, .int .i64 (badT ts[i]).2]]) ∧ Rd w' R v ts i o) ∧ Foot (fun k => k = R) w w' := by
  have S0 := (St.start h).alloc #[.int .i64 0, .int .i64 0] 47
  have NX := fun W hW => next_c R v ts i o W hW hi
  have IS := fun W => isName_c ts[i] W
  have UN := fun W => unexpected_c ts[i] W
  have CL := fun W => clone_c (mk ts[i].text) W (by rw [mk_size]; exact hs)
  have hw1 : IntKind.i64.wrap ((i : Int) + 1) = ((i + 1 : Nat) : Int) := by have := h.few; rw [IntKind.wrap_i64]; omega
  clear hs
  generalize ts[i] = t at *
  unfold tokV at NX IS UN
  rw [strV_mk] at NX IS UN
  obtain ⟨a, c, rfl⟩ := h.shape
  have S0 := Lib.hid S0
  cases hb : isN t with
  | true =>
    rw [hb] at IS
    simp only [if_true]
    clear h UN hb
    go_enter Tryd.func79, Tryd.ntmps79
    go_wp2_with fail
    generalize w.alloc (.cells #[.int .i64 0, .int .i64 0] 47) = W1 at *
    refine (NX _ S0.out.rd).mono ?_
    rintro e w1 ⟨rfl, hf⟩
    have S1 := Lib.hid ((S0.out.still hf).alloc #[.int .i64 t.kind, .int .i64 t.at_, .int .i64 t.en, .string (mk t.text), .int .i64 t.n] 72)
    clear hf S0
    go_wp2_with fail
    generalize w1.alloc (.cells #[.int .i64 t.kind, .int .i64 t.at_, .int .i64 t.en, .string (mk t.text), .int .i64 t.n] 72) = W2 at *
    obtain ⟨t0, t1, t2, t3, t4⟩ := cells5 (S1.out.var 0 rfl).1
    refine (IS _).mono ?_
    rintro e w3 ⟨rfl, hf⟩
    have S3 := S1.out.still hf
    obtain ⟨r0, r1, r2⟩ := cells3 S3.rd.rd
    have f1 := S3.rd.rd.free 1
    have hlt := S3.lt
    have S4 := Lib.hid (S3.inc)
    have t3 := (cells5 (S4.out.var 0 rfl).1).2.2.2.1
    clear hf S1 S3
    go_wp2_with fail
    generalize w3.setCell ⟨R, 1, none⟩ (.int .i64 ((i : Int) + 1)) = W4 at *
    refine (CL _).mono ?_
    rintro e w5 ⟨rfl, hf⟩
    have S5 := S4.out.still hf
    have HV := S5.var 1 rfl
    obtain ⟨l0, l1⟩ := cells2 HV.1
    have g0 := HV.1.free 0
    have g1 := HV.1.free 1
    have S6 := Lib.hid (S5.set2 1 rfl (.int .i64 0) (.int .i64 0))
    clear hf S4 S5 HV
    go_wp2_with fail
    refine bodyPost_ret (v := .tuple #[.string (mk t.text), .agg #[.int .i64 0, .int .i64 0]]) (by simp [results, Tryd.results79, go_sem, *]) rfl ⟨⟨rfl, S6.out.rd⟩, S6.out.foot⟩
  | false =>
    rw [hb] at IS
    simp only [Bool.false_eq_true, if_false]
    clear h hb CL
    go_enter Tryd.func79, Tryd.ntmps79
    go_wp2_with fail
    generalize w.alloc (.cells #[.int .i64 0, .int .i64 0] 47) = W1 at *
    refine (NX _ S0.out.rd).mono ?_
    rintro e w1 ⟨rfl, hf⟩
    have S1 := Lib.hid ((S0.out.still hf).alloc #[.int .i64 t.kind, .int .i64 t.at_, .int .i64 t.en, .string (mk t.text), .int .i64 t.n] 72)
    clear hf S0
    go_wp2_with fail
    generalize w1.alloc (.cells #[.int .i64 t.kind, .int .i64 t.at_, .int .i64 t.en, .string (mk t.text), .int .i64 t.n] 72) = W2 at *
    obtain ⟨t0, t1, t2, t3, t4⟩ := cells5 (S1.out.var 0 rfl).1
    refine (IS _).mono ?_
    rintro e w3 ⟨rfl, hf⟩
    have S3 := Lib.hid (S1.out.still hf)
    obtain ⟨t0, t1, t2, t3, t4⟩ := cells5 (S3.out.var 0 rfl).1
    clear hf S1
    go_wp2_with fail
    refine (UN _).mono ?_
    rintro e w4 ⟨rfl, hf⟩
    have S4 := S3.out.still hf
    have HV := S4.var 1 rfl
    obtain ⟨l0, l1⟩ := cells2 HV.1
    have g0 := HV.1.free 0
    have g1 := HV.1.free 1
    have S5 := Lib.hid (S4.set2 1 rfl (.int .i64 (badT t).1) (.int .i64 (badT t).2))
    clear hf S3 S4 HV
    go_wp2_with fail
    refine bodyPost_ret (v := .tuple #[.string ⟨#[]⟩, .agg #[.int .i64 (badT t).1, .int .i64 (badT t).2]]) (by simp [results, Tryd.results79, go_sem, *]) rfl ⟨⟨rfl, S5.out.rd⟩, S5.out.foot⟩

theorem fld_tok (t : Tok) (W : World) : (Instr.field 72 (.agg #[.int .i64 t.kind, .int .i64 t.at_, .int .i64 t.en, .string (mk t.text), .int .i64 t.n]) 1).run Tryd.prog W = .ok (.int .i64 t.at_) W := by
  have h := Tryd.underlying72
  simp [Instr.field, run_underlying h, asAgg, go_sem]
set_option maxHeartbeats 1000000 in
set_option maxRecDepth 100000 in
theorem enter_c (R : Nat) (v : Value) (ts : List Tok) (i o : Nat) (w : World) (h : Rd w R v ts i o) (hi : i < ts.length) (ho : o ≤ 12) :
    Calls Tryd.prog 68 #[.pointer (some ⟨R, 0, none⟩)] w fun e w' =>
      (if o = 12 then e = .returned (.agg #[.int .i64 14, .int .i64 ts[i].at_]) ∧ Rd w' R v ts i o else e = .returned (.agg #[.int .i64 0, .int .i64 0]) ∧ Rd w' R v ts (i + 1) (o + 1)) ∧ Foot (fun k => k = R) w w' := by
  have S0 := (St.start h).alloc #[.int .i64 0, .int .i64 0] 47
  have NX := fun W hW => next_c R v ts i o W hW hi
  have hw1 : IntKind.i64.wrap ((i : Int) + 1) = ((i + 1 : Nat) : Int) := by have := h.few; rw [IntKind.wrap_i64]; omega
  have hw2 : IntKind.i64.wrap ((o : Int) + 1) = ((o + 1 : Nat) : Int) := by rw [IntKind.wrap_i64]; omega
  have HFD := fun W => fld_tok ts[i] W
  generalize ts[i] = t at *
  unfold tokV at NX
  rw [strV_mk] at NX
  obtain ⟨a, c, rfl⟩ := h.shape
  obtain ⟨r0, r1, r2⟩ := cells3 S0.rd.rd
  have f1 := S0.rd.rd.free 1
  have f2 := S0.rd.rd.free 2
  have hlt := S0.lt
  have HV := S0.var 0 rfl
  obtain ⟨l0, l1⟩ := cells2 HV.1
  have g0 := HV.1.free 0
  have g1 := HV.1.free 1
  clear HV
  have S0 := Lib.hid S0
  by_cases h12 : o = 12
  · have d12 : ((o : Int) == 12) = true := by rw [h12]; rfl
    simp only [if_pos h12]
    clear h h12 hw1 hw2
    go_enter Tryd.func68, Tryd.ntmps68
    go_wp2_with fail
    generalize w.alloc (.cells #[.int .i64 0, .int .i64 0] 47) = W1 at *
    refine (NX _ S0.out.rd).mono ?_
    rintro e w1 ⟨rfl, hf⟩
    have S1 := S0.out.still hf
    have HV := S1.var 0 rfl
    obtain ⟨l0, l1⟩ := cells2 HV.1
    have g0 := HV.1.free 0
    have g1 := HV.1.free 1
    have S5 := Lib.hid (S1.set2 0 rfl (.int .i64 14) (.int .i64 t.at_))
    clear hf S0 S1 HV
    go_wp2_with fail
    refine bodyPost_ret (v := .agg #[.int .i64 14, .int .i64 t.at_]) (by simp [results, Tryd.results68, go_sem, *]) rfl ⟨⟨rfl, S5.out.rd⟩, S5.out.foot⟩
  · have d12 : ((o : Int) == 12) = false := by rw [beq_eq_false_iff_ne]; omega
    have S5 := Lib.hid ((St.start h).incO.inc.alloc #[.int .i64 0, .int .i64 0] 47)
    simp only [if_neg h12]
    obtain ⟨q0, q1, q2⟩ := cells3 h.rd
    have q3 := h.rd.free 1
    have q4 := h.rd.free 2
    clear h h12 S0
    go_enter Tryd.func68, Tryd.ntmps68
    go_wp2_with fail
    refine bodyPost_ret (v := .agg #[.int .i64 0, .int .i64 0]) (by simp [results, Tryd.results68, go_sem, *]) rfl ⟨⟨rfl, S5.out.rd⟩, S5.out.foot⟩
end Go.Proofs.YtdibkgjldmepcaaDoor.Xp
