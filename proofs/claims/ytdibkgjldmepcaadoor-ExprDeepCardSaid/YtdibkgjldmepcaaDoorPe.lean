/- What the reader's recursive functions answer; inside. -/
import Derived.Test.YtdibkgjldmepcaaDoorPd
import Derived.Test.YtdibkgjldmepcaaDoorPc
namespace Go.Proofs.YtdibkgjldmepcaaDoor.Xp
open Go.RowKit Mem Lex Gen
set_option linter.unusedVariables false
set_option linter.unusedSimpArgs false

/-- What a function that reads an expression answers, and what it leaves. -/
def Post (W w' : World) (R : Nat) (v : Value) (ts : List Tok) (o : Nat) (r : PRes) (e : Ending) : Prop :=
  match r with
  | .ok (x, l) => ∃ u j, e = .returned (.tuple #[u, .agg #[.int .i64 0, .int .i64 0]]) ∧ Tr w' (fun k => W.heap.size ≤ k) u x ∧ l = ts.drop j ∧ j < ts.length ∧ Rd w' R v ts j o
  | .error (c, p) => ∃ u j o', e = .returned (.tuple #[u, .agg #[.int .i64 c, .int .i64 p]]) ∧ Five u ∧ c ≠ 0 ∧ (o ≤ o' ∧ o' ≤ 12) ∧ j < ts.length ∧ Rd w' R v ts j o'
def PostI (w' : World) (R : Nat) (v : Value) (ts : List Tok) (o : Nat) (r : Except (Int × Int) (Bytes × List Tok)) (e : Ending) : Prop :=
  match r with
  | .ok (s, l) => ∃ j, e = .returned (.tuple #[.string (mk s), .agg #[.int .i64 0, .int .i64 0]]) ∧ l = ts.drop j ∧ j < ts.length ∧ Rd w' R v ts j o
  | .error (c, p) => ∃ s j, e = .returned (.tuple #[.string s, .agg #[.int .i64 c, .int .i64 p]]) ∧ c ≠ 0 ∧ j < ts.length ∧ Rd w' R v ts j o
theorem bad_bne (t : Tok) : ((badT t).1 != 0) = true ∧ ((badT t).1 == 0) = false ∧ (badT t).1 ≠ 0 := by
  have := badT_ne t
  refine ⟨?_, ?_, by omega⟩
  · rw [bne_iff_ne]; omega
  · rw [beq_eq_false_iff_ne]; omega
set_option maxHeartbeats 1000000 in
set_option maxRecDepth 100000 in
theorem inside_c (R : Nat) (v : Value) (ts : List Tok) (i o : Nat) (w : World) (h : Rd w R v ts i o) (hE : Ends ts) (hi : i + 1 < ts.length) :
    Calls Tryd.prog 77 #[.pointer (some ⟨R, 0, none⟩)] w fun e w' => PostI w' R v ts o (insP (ts.drop (i + 1))) e ∧ Foot (fun k => k = R) w w' := by
  have S0 := (St.start h).inc.alloc #[.int .i64 0, .int .i64 0] 47
  rw [size_set] at S0
  have hw1 : IntKind.i64.wrap ((i : Int) + 1) = ((i + 1 : Nat) : Int) := by have := h.few; rw [IntKind.wrap_i64]; omega
  have T1 := fun W hW => take_c R v ts (i + 1) o ⟨#[40]⟩ W hW hi
  rw [drop_at hi]
  generalize ht1 : ts[i + 1] = t1 at *
  obtain ⟨a, c, rfl⟩ := h.shape
  obtain ⟨q0, q1, q2⟩ := cells3 h.rd
  have q3 := h.rd.free 1
  have q4 := h.rd.free 2
  have hsm := h.small
  have hlt0 := h.lt
  have HSM := Lib.hid hsm
  have HE := Lib.hid hE
  have S0 := Lib.hid S0
  have hb40 : bs ⟨#[40]⟩ = [40] := rfl
  have hb41 : bs ⟨#[41]⟩ = [41] := rfl
  rw [hb40] at T1
  clear h hsm hE
  unfold insP
  dsimp only
  cases hb : isS t1 [40] with
  | false =>
    simp only [Bool.false_eq_true, if_false]
    go_enter Tryd.func77, Tryd.ntmps77
    go_wp2_with fail
    generalize (w.setCell ⟨R, 1, none⟩ (.int .i64 ((i : Int) + 1))).alloc (.cells #[.int .i64 0, .int .i64 0] 47) = W1 at *
    refine (T1 _ S0.out.rd).mono ?_
    rintro e w1 ⟨hr, hf⟩
    simp only [hb, Bool.false_eq_true, if_false] at hr
    obtain ⟨rfl, hr⟩ := hr
    obtain ⟨b1, b2, b3⟩ := bad_bne t1
    have S1 := Lib.hid ((S0.out.step hr hf).alloc #[.int .i64 (badT t1).1, .int .i64 (badT t1).2] 47)
    clear hf hr S0
    have hlt := S1.out.lt
    go_wp2_with fail
    generalize w1.alloc (.cells #[.int .i64 (badT t1).1, .int .i64 (badT t1).2] 47) = W2 at *
    obtain ⟨l0, l1⟩ := cells2 (S1.out.var 0 rfl).1
    have lf0 := (S1.out.var 0 rfl).1.free 0
    have lf1 := (S1.out.var 0 rfl).1.free 1
    obtain ⟨g0, g1⟩ := cells2 (S1.out.var 1 rfl).1
    have gf0 := (S1.out.var 1 rfl).1.free 0
    have gf1 := (S1.out.var 1 rfl).1.free 1
    have S2 := Lib.hid ((S1.out.set2 1 rfl (.int .i64 (badT t1).1) (.int .i64 (badT t1).2)).drew)
    clear S1
    go_region
    go_wp2_with fail
    refine bodyPost_ret (v := .tuple #[.string ⟨#[]⟩, .agg #[.int .i64 (badT t1).1, .int .i64 (badT t1).2]]) (by simp [results, Tryd.results77, go_sem, *]) rfl ⟨⟨_, _, rfl, b3, by omega, S2.out.rd⟩, S2.out.foot⟩
  | true =>
    have hi2 : i + 1 + 1 < ts.length := HE.out.last hi (by rw [ht1]; exact isS_kind hb)
    have T2 := fun W hW => takeName_c R (.slice a ts.length c) ts (i + 1 + 1) o W hW hi2 (HSM.out _ (List.getElem_mem hi2))
    simp only [if_true]
    rw [drop_at hi2]
    generalize ht2 : ts[i + 1 + 1] = t2 at *
    simp only
    cases hb2 : isN t2 with
    | false =>
      simp only [Bool.false_eq_true, if_false]
      go_enter Tryd.func77, Tryd.ntmps77
      go_wp2_with fail
      generalize (w.setCell ⟨R, 1, none⟩ (.int .i64 ((i : Int) + 1))).alloc (.cells #[.int .i64 0, .int .i64 0] 47) = W1 at *
      refine (T1 _ S0.out.rd).mono ?_
      rintro e w1 ⟨hr, hf⟩
      simp only [hb, if_true] at hr
      obtain ⟨rfl, hr⟩ := hr
      have S1 := Lib.hid ((S0.out.step hr hf).alloc #[.int .i64 0, .int .i64 0] 47)
      clear hf hr S0
      have hlt := S1.out.lt
      go_wp2_with fail
      generalize w1.alloc (.cells #[.int .i64 0, .int .i64 0] 47) = W2 at *
      refine (T2 _ S1.out.rd).mono ?_
      rintro e w2 ⟨hr, hf⟩
      simp only [hb2, Bool.false_eq_true, if_false] at hr
      obtain ⟨rfl, hr⟩ := hr
      obtain ⟨b1, b2, b3⟩ := bad_bne t2
      have S2 := Lib.hid (S1.out.step hr hf)
      clear hf hr S1
      obtain ⟨l0, l1⟩ := cells2 (S2.out.var 0 rfl).1
      have lf0 := (S2.out.var 0 rfl).1.free 0
      have lf1 := (S2.out.var 0 rfl).1.free 1
      have S3 := Lib.hid (S2.out.set2 0 rfl (.int .i64 (badT t2).1) (.int .i64 (badT t2).2))
      clear S2
      go_wp2_with fail
      generalize (w2.setCell ⟨w1.heap.size, 0, none⟩ (.int .i64 (badT t2).1)).setCell ⟨w1.heap.size, 1, none⟩ (.int .i64 (badT t2).2) = W3 at *
      obtain ⟨l0, l1⟩ := cells2 (S3.out.var 0 rfl).1
      have lf0 := (S3.out.var 0 rfl).1.free 0
      have lf1 := (S3.out.var 0 rfl).1.free 1
      obtain ⟨g0, g1⟩ := cells2 (S3.out.var 1 rfl).1
      have gf0 := (S3.out.var 1 rfl).1.free 0
      have gf1 := (S3.out.var 1 rfl).1.free 1
      have S4 := Lib.hid ((S3.out.set2 1 rfl (.int .i64 (badT t2).1) (.int .i64 (badT t2).2)).drew)
      clear S3
      go_region
      go_wp2_with fail
      refine bodyPost_ret (v := .tuple #[.string ⟨#[]⟩, .agg #[.int .i64 (badT t2).1, .int .i64 (badT t2).2]]) (by simp [results, Tryd.results77, go_sem, *]) rfl ⟨⟨_, _, rfl, b3, by omega, S4.out.rd⟩, S4.out.foot⟩
    | true =>
      have hi3 : i + 1 + 1 + 1 < ts.length := HE.out.last hi2 (by rw [ht2]; exact isN_kind hb2)
      have T3 := fun W hW => take_c R (.slice a ts.length c) ts (i + 1 + 1 + 1) o ⟨#[41]⟩ W hW hi3
      rw [hb41] at T3
      simp only [if_true]
      rw [drop_at hi3]
      generalize ht3 : ts[i + 1 + 1 + 1] = t3 at *
      simp only
      cases hb3 : isS t3 [41] with
      | false =>
        simp only [Bool.false_eq_true, if_false]
        go_enter Tryd.func77, Tryd.ntmps77
        go_wp2_with fail
        generalize (w.setCell ⟨R, 1, none⟩ (.int .i64 ((i : Int) + 1))).alloc (.cells #[.int .i64 0, .int .i64 0] 47) = W1 at *
        refine (T1 _ S0.out.rd).mono ?_
        rintro e w1 ⟨hr, hf⟩
        simp only [hb, if_true] at hr
        obtain ⟨rfl, hr⟩ := hr
        have S1 := Lib.hid ((S0.out.step hr hf).alloc #[.int .i64 0, .int .i64 0] 47)
        clear hf hr S0
        have hlt := S1.out.lt
        go_wp2_with fail
        generalize w1.alloc (.cells #[.int .i64 0, .int .i64 0] 47) = W2 at *
        refine (T2 _ S1.out.rd).mono ?_
        rintro e w2 ⟨hr, hf⟩
        simp only [hb2, if_true] at hr
        obtain ⟨rfl, hr⟩ := hr
        have S2 := Lib.hid (S1.out.step hr hf)
        clear hf hr S1
        obtain ⟨l0, l1⟩ := cells2 (S2.out.var 0 rfl).1
        have lf0 := (S2.out.var 0 rfl).1.free 0
        have lf1 := (S2.out.var 0 rfl).1.free 1
        have S3 := Lib.hid (S2.out.set2 0 rfl (.int .i64 0) (.int .i64 0))
        clear S2
        go_wp2_with fail
        generalize (w2.setCell ⟨w1.heap.size, 0, none⟩ (.int .i64 0)).setCell ⟨w1.heap.size, 1, none⟩ (.int .i64 0) = W3 at *
        refine (T3 _ S3.out.rd).mono ?_
        rintro e w3 ⟨hr, hf⟩
        simp only [hb3, Bool.false_eq_true, if_false] at hr
        obtain ⟨rfl, hr⟩ := hr
        obtain ⟨b1, b2, b3⟩ := bad_bne t3
        have S4 := Lib.hid (S3.out.step hr hf)
        clear hf hr S3
        obtain ⟨g0, g1⟩ := cells2 (S4.out.var 1 rfl).1
        have gf0 := (S4.out.var 1 rfl).1.free 0
        have gf1 := (S4.out.var 1 rfl).1.free 1
        have S5 := Lib.hid (S4.out.set2 1 rfl (.int .i64 (badT t3).1) (.int .i64 (badT t3).2))
        clear S4
        go_wp2_with fail
        refine bodyPost_ret (v := .tuple #[.string (mk t2.text), .agg #[.int .i64 (badT t3).1, .int .i64 (badT t3).2]]) (by simp [results, Tryd.results77, go_sem, *]) rfl ⟨⟨_, _, rfl, b3, by omega, S5.out.rd⟩, S5.out.foot⟩
      | true =>
        have hi4 : i + 1 + 1 + 1 + 1 < ts.length := HE.out.last hi3 (by rw [ht3]; exact isS_kind hb3)
        simp only [if_true]
        go_enter Tryd.func77, Tryd.ntmps77
        go_wp2_with fail
        generalize (w.setCell ⟨R, 1, none⟩ (.int .i64 ((i : Int) + 1))).alloc (.cells #[.int .i64 0, .int .i64 0] 47) = W1 at *
        refine (T1 _ S0.out.rd).mono ?_
        rintro e w1 ⟨hr, hf⟩
        simp only [hb, if_true] at hr
        obtain ⟨rfl, hr⟩ := hr
        have S1 := Lib.hid ((S0.out.step hr hf).alloc #[.int .i64 0, .int .i64 0] 47)
        clear hf hr S0
        have hlt := S1.out.lt
        go_wp2_with fail
        generalize w1.alloc (.cells #[.int .i64 0, .int .i64 0] 47) = W2 at *
        refine (T2 _ S1.out.rd).mono ?_
        rintro e w2 ⟨hr, hf⟩
        simp only [hb2, if_true] at hr
        obtain ⟨rfl, hr⟩ := hr
        have S2 := Lib.hid (S1.out.step hr hf)
        clear hf hr S1
        obtain ⟨l0, l1⟩ := cells2 (S2.out.var 0 rfl).1
        have lf0 := (S2.out.var 0 rfl).1.free 0
        have lf1 := (S2.out.var 0 rfl).1.free 1
        have S3 := Lib.hid (S2.out.set2 0 rfl (.int .i64 0) (.int .i64 0))
        clear S2
        go_wp2_with fail
        generalize (w2.setCell ⟨w1.heap.size, 0, none⟩ (.int .i64 0)).setCell ⟨w1.heap.size, 1, none⟩ (.int .i64 0) = W3 at *
        refine (T3 _ S3.out.rd).mono ?_
        rintro e w3 ⟨hr, hf⟩
        simp only [hb3, if_true] at hr
        obtain ⟨rfl, hr⟩ := hr
        have S4 := Lib.hid (S3.out.step hr hf)
        clear hf hr S3
        obtain ⟨g0, g1⟩ := cells2 (S4.out.var 1 rfl).1
        have gf0 := (S4.out.var 1 rfl).1.free 0
        have gf1 := (S4.out.var 1 rfl).1.free 1
        have S5 := Lib.hid (S4.out.set2 1 rfl (.int .i64 0) (.int .i64 0))
        clear S4
        go_wp2_with fail
        refine bodyPost_ret (v := .tuple #[.string (mk t2.text), .agg #[.int .i64 0, .int .i64 0]]) (by simp [results, Tryd.results77, go_sem, *]) rfl ⟨⟨_, rfl, rfl, hi4, S5.out.rd⟩, S5.out.foot⟩

def OpC (F : Nat) : Prop := ∀ (n : Nat), 1 ≤ n → n ≤ 6 → ∀ (R : Nat) (v : Value) (ts : List Tok) (i o : Nat) (w : World), Rd w R v ts i o → Ends ts → i < ts.length → o ≤ 12 → need (.lvl n) (ts.length - i) ≤ F →
  Calls Tryd.prog 35 #[.pointer (some ⟨R, 0, none⟩), .int .i64 n] w fun e w' => Post w w' R v ts o (prs F (.lvl n) (ts.drop i) o) e ∧ Foot (fun k => k = R) w w'
def UnC (F : Nat) : Prop := ∀ (R : Nat) (v : Value) (ts : List Tok) (i o : Nat) (w : World), Rd w R v ts i o → Ends ts → i < ts.length → o ≤ 12 → need .un (ts.length - i) ≤ F →
  Calls Tryd.prog 51 #[.pointer (some ⟨R, 0, none⟩)] w fun e w' => Post w w' R v ts o (prs F .un (ts.drop i) o) e ∧ Foot (fun k => k = R) w w'
def SgC (F : Nat) : Prop := ∀ (R : Nat) (v : Value) (ts : List Tok) (i o : Nat) (w : World), Rd w R v ts i o → Ends ts → i < ts.length → o ≤ 12 → need .prim (ts.length - i) ≤ F →
  Calls Tryd.prog 67 #[.pointer (some ⟨R, 0, none⟩)] w fun e w' => Post w w' R v ts o (prs F .prim (ts.drop i) o) e ∧ Foot (fun k => k = R) w w'
end Go.Proofs.YtdibkgjldmepcaaDoor.Xp
