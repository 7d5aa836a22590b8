/- single. -/
import Derived.Test.YtdibkgjldmepcaaDoorPf
namespace Go.Proofs.YtdibkgjldmepcaaDoor.Xp
open Go.RowKit Mem Lex Gen
set_option linter.unusedVariables false
set_option linter.unusedSimpArgs false

set_option maxHeartbeats 4000000 in
set_option maxRecDepth 100000 in
theorem single_c (F : Nat) (hop : OpC F) : SgC (F + 1) := by
  intro R v ts i o w h hE hi ho hF
  have S0 := ((St.start h).alloc #[.int .i64 0, .int .i64 0, .string ⟨#[]⟩, .slice none 0 0, .int .i64 0] 24).alloc #[.int .i64 0, .int .i64 0] 47
  rw [size_alloc] at S0
  have NX := fun W hW => next_c R v ts i o W hW hi
  have IS := fun (s : ByteArray) W => isSign_c ts[i] s W
  have IW := fun (s : ByteArray) W => isWord_c ts[i] s W
  have IN := fun W => isName_c ts[i] W
  have UN := fun W => unexpected_c ts[i] W
  have BR := fun (hk : ts[i].kind ≠ 4) W hW => bracketed_c F hop R v ts i o W hW hE hi (hE.last hi hk) ho (by have := hE.last hi hk; simp only [need] at hF ⊢; omega)
  have IM := fun (hk : ts[i].kind ≠ 4) W hW => inside_c R v ts i o W hW hE (hE.last hi hk)
  have TN := fun W hW => takeName_c R v ts i o W hW hi (h.small _ (List.getElem_mem hi))
  have HL : Hid (ts[i].kind ≠ 4 → i + 1 < ts.length) := Lib.hid fun hk => hE.last hi hk
  rw [drop_at hi]
  have hw1 : IntKind.i64.wrap ((i : Int) + 1) = (i : Int) + 1 := by have := h.few; rw [IntKind.wrap_i64]; omega
  have hlt0 := h.lt
  obtain ⟨a, c, rfl⟩ := h.shape
  generalize ts[i] = t at NX IS IW IN UN BR IM TN HL ⊢
  unfold tokV at NX IS IW IN UN
  rw [strV_mk] at NX IN UN
  simp only [strV_mk] at IS IW
  have S0 := Lib.hid S0
  clear h hE hF hop
  rw [prs]
  try dsimp only
  cases h40 : isS t [40] with
  | true =>
    simp only [if_true]
    generalize (if o = 12 then .error (14, t.at_) else thenP (prs F (.lvl 1) (ts.drop (i + 1)) (o + 1)) fun x r' => wantS [41] r' fun r'' => .ok (x, r'') : PRes) = rr at BR ⊢
    cases rr with
    | error z =>
      obtain ⟨cc, pp⟩ := z
      go_enter Tryd.func67, Tryd.ntmps67
      go_wp2_with fail
      generalize (w.alloc (.cells #[.int .i64 0, .int .i64 0, .string ⟨#[]⟩, .slice none 0 0, .int .i64 0] 24)).alloc (.cells #[.int .i64 0, .int .i64 0] 47) = W1 at *
      refine (NX _ S0.out.rd).mono ?_
      rintro e w1 ⟨rfl, hf⟩
      have S1 := (((S0.out.still hf).alloc #[.int .i64 t.kind, .int .i64 t.at_, .int .i64 t.en, .string (mk t.text), .int .i64 t.n] 72).alloc #[.int .i64 0, .int .i64 0, .string ⟨#[]⟩, .slice none 0 0, .int .i64 t.at_] 24).alloc #[.int .i64 0, .int .i64 0] 47
      rw [size_alloc, size_alloc] at S1
      have S1 := Lib.hid S1
      have hz1 := ((S0.out.still hf).var 0 rfl).1.lt
      clear hf S0
      go_wp2_with fail
      generalize ((w1.alloc (.cells #[.int .i64 t.kind, .int .i64 t.at_, .int .i64 t.en, .string (mk t.text), .int .i64 t.n] 72)).alloc (.cells #[.int .i64 0, .int .i64 0, .string ⟨#[]⟩, .slice none 0 0, .int .i64 t.at_] 24)).alloc (.cells #[.int .i64 0, .int .i64 0] 47) = W2 at *
      refine (IS ⟨#[40]⟩ _).mono ?_
      rintro e w2 ⟨rfl, hf⟩
      rw [show bs ⟨#[40]⟩ = [40] from rfl, h40]
      have S2 := Lib.hid (S1.out.still hf)
      clear hf S1
      go_wp2_with fail
      refine (BR (isS_kind h40) _ S2.out.rd).mono ?_
      rintro e w3 ⟨hp, hf⟩
      have hz2 : w.heap.size + 1 < w2.heap.size := (S2.out.var 3 rfl).1.lt
      obtain ⟨u, j, o', rfl, ⟨k1, n1, s1, a1, m1, c1, p1, rfl⟩, hcc, hoo, hj, hr⟩ := hp
      have S3 := Lib.hid (S2.out.step hr hf)
      clear hf hr S2
      obtain ⟨g0, g1⟩ := cells2 (S3.out.var 3 rfl).1
      have gf0 := (S3.out.var 3 rfl).1.free 0
      have gf1 := (S3.out.var 3 rfl).1.free 1
      obtain ⟨x0, x1, x2, x3, x4⟩ := cells5 (S3.out.var 4 rfl).1
      obtain ⟨xf0, xf1, xf2, xf3, xf4⟩ := free5 (S3.out.var 4 rfl).1
      have SZ := Lib.hid ((S3.out.set5 4 rfl (.int .i64 k1) (.int .i64 n1) (.string s1) (.slice a1 m1 c1) (.int .i64 p1)).set2 3 rfl (.int .i64 cc) (.int .i64 pp))
      clear S3
      go_wp2_with fail
      refine bodyPost_ret (v := .tuple #[.agg #[.int .i64 k1, .int .i64 n1, .string s1, .slice a1 m1 c1, .int .i64 p1], .agg #[.int .i64 cc, .int .i64 pp]]) (by simp [results, Tryd.results67, go_sem, *]) rfl ⟨⟨_, j, o', rfl, ⟨_, _, _, _, _, _, _, rfl⟩, hcc, hoo, hj, SZ.out.rd⟩, SZ.out.foot⟩
    | ok z =>
      obtain ⟨x, l⟩ := z
      go_enter Tryd.func67, Tryd.ntmps67
      go_wp2_with fail
      generalize (w.alloc (.cells #[.int .i64 0, .int .i64 0, .string ⟨#[]⟩, .slice none 0 0, .int .i64 0] 24)).alloc (.cells #[.int .i64 0, .int .i64 0] 47) = W1 at *
      refine (NX _ S0.out.rd).mono ?_
      rintro e w1 ⟨rfl, hf⟩
      have S1 := (((S0.out.still hf).alloc #[.int .i64 t.kind, .int .i64 t.at_, .int .i64 t.en, .string (mk t.text), .int .i64 t.n] 72).alloc #[.int .i64 0, .int .i64 0, .string ⟨#[]⟩, .slice none 0 0, .int .i64 t.at_] 24).alloc #[.int .i64 0, .int .i64 0] 47
      rw [size_alloc, size_alloc] at S1
      have S1 := Lib.hid S1
      have hz1 := ((S0.out.still hf).var 0 rfl).1.lt
      clear hf S0
      go_wp2_with fail
      generalize ((w1.alloc (.cells #[.int .i64 t.kind, .int .i64 t.at_, .int .i64 t.en, .string (mk t.text), .int .i64 t.n] 72)).alloc (.cells #[.int .i64 0, .int .i64 0, .string ⟨#[]⟩, .slice none 0 0, .int .i64 t.at_] 24)).alloc (.cells #[.int .i64 0, .int .i64 0] 47) = W2 at *
      refine (IS ⟨#[40]⟩ _).mono ?_
      rintro e w2 ⟨rfl, hf⟩
      rw [show bs ⟨#[40]⟩ = [40] from rfl, h40]
      have S2 := Lib.hid (S1.out.still hf)
      clear hf S1
      go_wp2_with fail
      refine (BR (isS_kind h40) _ S2.out.rd).mono ?_
      rintro e w3 ⟨hp, hf⟩
      have hz2 : w.heap.size + 1 < w2.heap.size := (S2.out.var 3 rfl).1.lt
      obtain ⟨u, j, rfl, hTr, hl, hj, hr⟩ := hp
      obtain ⟨k1, n1, s1, a1, m1, c1, p1, rfl⟩ := hTr.five
      have S3 := Lib.hid (S2.out.step hr hf)
      clear hf hr S2
      obtain ⟨g0, g1⟩ := cells2 (S3.out.var 3 rfl).1
      have gf0 := (S3.out.var 3 rfl).1.free 0
      have gf1 := (S3.out.var 3 rfl).1.free 1
      obtain ⟨x0, x1, x2, x3, x4⟩ := cells5 (S3.out.var 4 rfl).1
      obtain ⟨xf0, xf1, xf2, xf3, xf4⟩ := free5 (S3.out.var 4 rfl).1
      have SZ := Lib.hid ((S3.out.set5 4 rfl (.int .i64 k1) (.int .i64 n1) (.string s1) (.slice a1 m1 c1) (.int .i64 p1)).set2 3 rfl (.int .i64 0) (.int .i64 0))
      have HT := Lib.hid (keepL hTr (foot2' (foot5' (Foot.refl (fun k => k < w2.heap.size) w3) (show w.heap.size < w2.heap.size by omega) (.int .i64 k1) (.int .i64 n1) (.string s1) (.slice a1 m1 c1) (.int .i64 p1)) (show w.heap.size + 1 < w2.heap.size by omega) (.int .i64 0) (.int .i64 0)))
      clear S3 hTr
      go_wp2_with fail
      refine bodyPost_ret (v := .tuple #[.agg #[.int .i64 k1, .int .i64 n1, .string s1, .slice a1 m1 c1, .int .i64 p1], .agg #[.int .i64 0, .int .i64 0]]) (by simp [results, Tryd.results67, go_sem, *]) rfl ⟨⟨_, j, rfl, HT.out.weak (fun k _ hk => by omega), hl, hj, SZ.out.rd⟩, SZ.out.foot⟩
  | false =>
    simp only [Bool.false_eq_true, if_false]
    cases hin : isW t [105, 110] with
    | true =>
      simp only [if_true]
      cases hq : insP (ts.drop (i + 1)) with
      | error z =>
        obtain ⟨cc, pp⟩ := z
        dsimp only
        go_enter Tryd.func67, Tryd.ntmps67
        go_wp2_with fail
        generalize (w.alloc (.cells #[.int .i64 0, .int .i64 0, .string ⟨#[]⟩, .slice none 0 0, .int .i64 0] 24)).alloc (.cells #[.int .i64 0, .int .i64 0] 47) = W1 at *
        refine (NX _ S0.out.rd).mono ?_
        rintro e w1 ⟨rfl, hf⟩
        have S1 := (((S0.out.still hf).alloc #[.int .i64 t.kind, .int .i64 t.at_, .int .i64 t.en, .string (mk t.text), .int .i64 t.n] 72).alloc #[.int .i64 0, .int .i64 0, .string ⟨#[]⟩, .slice none 0 0, .int .i64 t.at_] 24).alloc #[.int .i64 0, .int .i64 0] 47
        rw [size_alloc, size_alloc] at S1
        have S1 := Lib.hid S1
        have hz1 := ((S0.out.still hf).var 0 rfl).1.lt
        clear hf S0
        go_wp2_with fail
        generalize ((w1.alloc (.cells #[.int .i64 t.kind, .int .i64 t.at_, .int .i64 t.en, .string (mk t.text), .int .i64 t.n] 72)).alloc (.cells #[.int .i64 0, .int .i64 0, .string ⟨#[]⟩, .slice none 0 0, .int .i64 t.at_] 24)).alloc (.cells #[.int .i64 0, .int .i64 0] 47) = W2 at *
        refine (IS ⟨#[40]⟩ _).mono ?_
        rintro e w2 ⟨rfl, hf⟩
        rw [show bs ⟨#[40]⟩ = [40] from rfl, h40]
        have S2 := Lib.hid (S1.out.still hf)
        clear hf S1
        obtain ⟨t0, t1, t2, t3, t4⟩ := cells5 (S2.out.var 2 rfl).1
        go_wp2_with fail
        refine (IW ⟨#[105, 110]⟩ _).mono ?_
        rintro e w3 ⟨rfl, hf⟩
        rw [show bs ⟨#[105, 110]⟩ = [105, 110] from rfl, hin]
        have S3 := Lib.hid (S2.out.still hf)
        clear hf S2 t0 t1 t2 t3 t4
        obtain ⟨e0, e1, e2, e3, e4⟩ := cells5 (S3.out.var 1 rfl).1
        obtain ⟨ef0, ef1, ef2, ef3, ef4⟩ := free5 (S3.out.var 1 rfl).1
        have S4 := Lib.hid (S3.out.set 1 rfl 0 (.int .i64 4))
        clear S3
        go_wp2_with fail
        generalize w3.setCell ⟨w1.heap.size + 1, 0, none⟩ (.int .i64 4) = W4 at *
        refine (IM (isW_kind hin) _ S4.out.rd).mono ?_
        rintro e w5 ⟨hp, hf⟩
        rw [hq] at hp
        obtain ⟨s0, j, rfl, hcc, hj, hr⟩ := hp
        have S5 := Lib.hid (S4.out.step hr hf)
        clear hf hr S4
        obtain ⟨f0, f1⟩ := cells2 (S5.out.var 0 rfl).1
        have ff0 := (S5.out.var 0 rfl).1.free 0
        have ff1 := (S5.out.var 0 rfl).1.free 1
        obtain ⟨e0, e1, e2, e3, e4⟩ := cells5 (S5.out.var 1 rfl).1
        obtain ⟨ef0, ef1, ef2, ef3, ef4⟩ := free5 (S5.out.var 1 rfl).1
        have S6 := Lib.hid ((S5.out.set 1 rfl 2 (.string s0)).set2 0 rfl (.int .i64 cc) (.int .i64 pp))
        clear S5
        go_wp2_with fail
        generalize ((w5.setCell ⟨w1.heap.size + 1, 2, none⟩ (.string s0)).setCell ⟨w1.heap.size + 2, 0, none⟩ (.int .i64 cc)).setCell ⟨w1.heap.size + 2, 1, none⟩ (.int .i64 pp) = W9 at *
        obtain ⟨f0, f1⟩ := cells2 (S6.out.var 0 rfl).1
        have ff0 := (S6.out.var 0 rfl).1.free 0
        have ff1 := (S6.out.var 0 rfl).1.free 1
        obtain ⟨e0, e1, e2, e3, e4⟩ := cells5 (S6.out.var 1 rfl).1
        obtain ⟨ef0, ef1, ef2, ef3, ef4⟩ := free5 (S6.out.var 1 rfl).1
        obtain ⟨g0, g1⟩ := cells2 (S6.out.var 3 rfl).1
        have gf0 := (S6.out.var 3 rfl).1.free 0
        have gf1 := (S6.out.var 3 rfl).1.free 1
        obtain ⟨x0, x1, x2, x3, x4⟩ := cells5 (S6.out.var 4 rfl).1
        obtain ⟨xf0, xf1, xf2, xf3, xf4⟩ := free5 (S6.out.var 4 rfl).1
        have SZ := Lib.hid (((S6.out.set5 4 rfl (.int .i64 4) (.int .i64 0) (.string s0) (.slice none 0 0) (.int .i64 t.at_)).set2 3 rfl (.int .i64 cc) (.int .i64 pp)).drew)
        clear S6
        go_region
        go_wp2_with fail
        refine bodyPost_ret (v := .tuple #[.agg #[.int .i64 4, .int .i64 0, .string s0, .slice none 0 0, .int .i64 t.at_], .agg #[.int .i64 cc, .int .i64 pp]]) (by simp [results, Tryd.results67, go_sem, *]) rfl ⟨⟨_, _, o, rfl, ⟨_, _, _, _, _, _, _, rfl⟩, hcc, by omega, hj, SZ.out.rd⟩, SZ.out.foot⟩
      | ok z =>
        obtain ⟨s0, l⟩ := z
        dsimp only
        go_enter Tryd.func67, Tryd.ntmps67
        go_wp2_with fail
        generalize (w.alloc (.cells #[.int .i64 0, .int .i64 0, .string ⟨#[]⟩, .slice none 0 0, .int .i64 0] 24)).alloc (.cells #[.int .i64 0, .int .i64 0] 47) = W1 at *
        refine (NX _ S0.out.rd).mono ?_
        rintro e w1 ⟨rfl, hf⟩
        have S1 := (((S0.out.still hf).alloc #[.int .i64 t.kind, .int .i64 t.at_, .int .i64 t.en, .string (mk t.text), .int .i64 t.n] 72).alloc #[.int .i64 0, .int .i64 0, .string ⟨#[]⟩, .slice none 0 0, .int .i64 t.at_] 24).alloc #[.int .i64 0, .int .i64 0] 47
        rw [size_alloc, size_alloc] at S1
        have S1 := Lib.hid S1
        have hz1 := ((S0.out.still hf).var 0 rfl).1.lt
        clear hf S0
        go_wp2_with fail
        generalize ((w1.alloc (.cells #[.int .i64 t.kind, .int .i64 t.at_, .int .i64 t.en, .string (mk t.text), .int .i64 t.n] 72)).alloc (.cells #[.int .i64 0, .int .i64 0, .string ⟨#[]⟩, .slice none 0 0, .int .i64 t.at_] 24)).alloc (.cells #[.int .i64 0, .int .i64 0] 47) = W2 at *
        refine (IS ⟨#[40]⟩ _).mono ?_
        rintro e w2 ⟨rfl, hf⟩
        rw [show bs ⟨#[40]⟩ = [40] from rfl, h40]
        have S2 := Lib.hid (S1.out.still hf)
        clear hf S1
        obtain ⟨t0, t1, t2, t3, t4⟩ := cells5 (S2.out.var 2 rfl).1
        go_wp2_with fail
        refine (IW ⟨#[105, 110]⟩ _).mono ?_
        rintro e w3 ⟨rfl, hf⟩
        rw [show bs ⟨#[105, 110]⟩ = [105, 110] from rfl, hin]
        have S3 := Lib.hid (S2.out.still hf)
        clear hf S2 t0 t1 t2 t3 t4
        obtain ⟨e0, e1, e2, e3, e4⟩ := cells5 (S3.out.var 1 rfl).1
        obtain ⟨ef0, ef1, ef2, ef3, ef4⟩ := free5 (S3.out.var 1 rfl).1
        have S4 := Lib.hid (S3.out.set 1 rfl 0 (.int .i64 4))
        clear S3
        go_wp2_with fail
        generalize w3.setCell ⟨w1.heap.size + 1, 0, none⟩ (.int .i64 4) = W4 at *
        refine (IM (isW_kind hin) _ S4.out.rd).mono ?_
        rintro e w5 ⟨hp, hf⟩
        rw [hq] at hp
        obtain ⟨j, rfl, hl, hj, hr⟩ := hp
        have S5 := Lib.hid (S4.out.step hr hf)
        clear hf hr S4
        obtain ⟨f0, f1⟩ := cells2 (S5.out.var 0 rfl).1
        have ff0 := (S5.out.var 0 rfl).1.free 0
        have ff1 := (S5.out.var 0 rfl).1.free 1
        obtain ⟨e0, e1, e2, e3, e4⟩ := cells5 (S5.out.var 1 rfl).1
        obtain ⟨ef0, ef1, ef2, ef3, ef4⟩ := free5 (S5.out.var 1 rfl).1
        have S6 := Lib.hid ((S5.out.set 1 rfl 2 (.string (mk s0))).set2 0 rfl (.int .i64 0) (.int .i64 0))
        clear S5
        go_wp2_with fail
        generalize ((w5.setCell ⟨w1.heap.size + 1, 2, none⟩ (.string (mk s0))).setCell ⟨w1.heap.size + 2, 0, none⟩ (.int .i64 0)).setCell ⟨w1.heap.size + 2, 1, none⟩ (.int .i64 0) = W9 at *
        obtain ⟨f0, f1⟩ := cells2 (S6.out.var 0 rfl).1
        have ff0 := (S6.out.var 0 rfl).1.free 0
        have ff1 := (S6.out.var 0 rfl).1.free 1
        obtain ⟨e0, e1, e2, e3, e4⟩ := cells5 (S6.out.var 1 rfl).1
        obtain ⟨ef0, ef1, ef2, ef3, ef4⟩ := free5 (S6.out.var 1 rfl).1
        obtain ⟨g0, g1⟩ := cells2 (S6.out.var 3 rfl).1
        have gf0 := (S6.out.var 3 rfl).1.free 0
        have gf1 := (S6.out.var 3 rfl).1.free 1
        obtain ⟨x0, x1, x2, x3, x4⟩ := cells5 (S6.out.var 4 rfl).1
        obtain ⟨xf0, xf1, xf2, xf3, xf4⟩ := free5 (S6.out.var 4 rfl).1
        have SZ := Lib.hid (((S6.out.set5 4 rfl (.int .i64 4) (.int .i64 0) (.string (mk s0)) (.slice none 0 0) (.int .i64 t.at_)).set2 3 rfl (.int .i64 0) (.int .i64 0)).drew)
        clear S6
        go_region
        go_wp2_with fail
        refine bodyPost_ret (v := .tuple #[.agg #[.int .i64 4, .int .i64 0, .string (mk s0), .slice none 0 0, .int .i64 t.at_], .agg #[.int .i64 0, .int .i64 0]]) (by simp [results, Tryd.results67, go_sem, *]) rfl ⟨⟨_, _, rfl, Tr.leaf, hl, hj, SZ.out.rd⟩, SZ.out.foot⟩
    | false =>
      simp only [Bool.false_eq_true, if_false]
      cases hnm : isN t with
      | true =>
        have hi2 := HL.out (isN_kind hnm)
        simp only [if_true]
        go_enter Tryd.func67, Tryd.ntmps67
        go_wp2_with fail
        generalize (w.alloc (.cells #[.int .i64 0, .int .i64 0, .string ⟨#[]⟩, .slice none 0 0, .int .i64 0] 24)).alloc (.cells #[.int .i64 0, .int .i64 0] 47) = W1 at *
        refine (NX _ S0.out.rd).mono ?_
        rintro e w1 ⟨rfl, hf⟩
        have S1 := (((S0.out.still hf).alloc #[.int .i64 t.kind, .int .i64 t.at_, .int .i64 t.en, .string (mk t.text), .int .i64 t.n] 72).alloc #[.int .i64 0, .int .i64 0, .string ⟨#[]⟩, .slice none 0 0, .int .i64 t.at_] 24).alloc #[.int .i64 0, .int .i64 0] 47
        rw [size_alloc, size_alloc] at S1
        have S1 := Lib.hid S1
        have hz1 := ((S0.out.still hf).var 0 rfl).1.lt
        clear hf S0
        go_wp2_with fail
        generalize ((w1.alloc (.cells #[.int .i64 t.kind, .int .i64 t.at_, .int .i64 t.en, .string (mk t.text), .int .i64 t.n] 72)).alloc (.cells #[.int .i64 0, .int .i64 0, .string ⟨#[]⟩, .slice none 0 0, .int .i64 t.at_] 24)).alloc (.cells #[.int .i64 0, .int .i64 0] 47) = W2 at *
        refine (IS ⟨#[40]⟩ _).mono ?_
        rintro e w2 ⟨rfl, hf⟩
        rw [show bs ⟨#[40]⟩ = [40] from rfl, h40]
        have S2 := Lib.hid (S1.out.still hf)
        clear hf S1
        obtain ⟨t0, t1, t2, t3, t4⟩ := cells5 (S2.out.var 2 rfl).1
        go_wp2_with fail
        refine (IW ⟨#[105, 110]⟩ _).mono ?_
        rintro e w3 ⟨rfl, hf⟩
        rw [show bs ⟨#[105, 110]⟩ = [105, 110] from rfl, hin]
        have S3 := Lib.hid (S2.out.still hf)
        clear hf S2 t0 t1 t2 t3 t4
        obtain ⟨t0, t1, t2, t3, t4⟩ := cells5 (S3.out.var 2 rfl).1
        go_wp2_with fail
        refine (IN _).mono ?_
        rintro e w4 ⟨rfl, hf⟩
        rw [hnm]
        have S4 := Lib.hid (S3.out.still hf)
        clear hf S3 t0 t1 t2 t3 t4
        obtain ⟨e0, e1, e2, e3, e4⟩ := cells5 (S4.out.var 1 rfl).1
        obtain ⟨ef0, ef1, ef2, ef3, ef4⟩ := free5 (S4.out.var 1 rfl).1
        have S5 := Lib.hid (S4.out.set 1 rfl 0 (.int .i64 2))
        clear S4
        go_wp2_with fail
        generalize w4.setCell ⟨w1.heap.size + 1, 0, none⟩ (.int .i64 2) = W5 at *
        refine (TN _ S5.out.rd).mono ?_
        rintro e w6 ⟨hp, hf⟩
        rw [if_pos hnm] at hp
        obtain ⟨rfl, hr⟩ := hp
        have S6 := Lib.hid (S5.out.step hr hf)
        clear hf hr S5
        obtain ⟨f0, f1⟩ := cells2 (S6.out.var 0 rfl).1
        have ff0 := (S6.out.var 0 rfl).1.free 0
        have ff1 := (S6.out.var 0 rfl).1.free 1
        obtain ⟨e0, e1, e2, e3, e4⟩ := cells5 (S6.out.var 1 rfl).1
        obtain ⟨ef0, ef1, ef2, ef3, ef4⟩ := free5 (S6.out.var 1 rfl).1
        have S7 := Lib.hid ((S6.out.set 1 rfl 2 (.string (mk t.text))).set2 0 rfl (.int .i64 0) (.int .i64 0))
        clear S6
        go_wp2_with fail
        generalize ((w6.setCell ⟨w1.heap.size + 1, 2, none⟩ (.string (mk t.text))).setCell ⟨w1.heap.size + 2, 0, none⟩ (.int .i64 0)).setCell ⟨w1.heap.size + 2, 1, none⟩ (.int .i64 0) = W9 at *
        obtain ⟨f0, f1⟩ := cells2 (S7.out.var 0 rfl).1
        have ff0 := (S7.out.var 0 rfl).1.free 0
        have ff1 := (S7.out.var 0 rfl).1.free 1
        obtain ⟨e0, e1, e2, e3, e4⟩ := cells5 (S7.out.var 1 rfl).1
        obtain ⟨ef0, ef1, ef2, ef3, ef4⟩ := free5 (S7.out.var 1 rfl).1
        obtain ⟨g0, g1⟩ := cells2 (S7.out.var 3 rfl).1
        have gf0 := (S7.out.var 3 rfl).1.free 0
        have gf1 := (S7.out.var 3 rfl).1.free 1
        obtain ⟨x0, x1, x2, x3, x4⟩ := cells5 (S7.out.var 4 rfl).1
        obtain ⟨xf0, xf1, xf2, xf3, xf4⟩ := free5 (S7.out.var 4 rfl).1
        have SZ := Lib.hid (((S7.out.set5 4 rfl (.int .i64 2) (.int .i64 0) (.string (mk t.text)) (.slice none 0 0) (.int .i64 t.at_)).set2 3 rfl (.int .i64 0) (.int .i64 0)).drew)
        clear S7
        go_region
        go_wp2_with fail
        refine bodyPost_ret (v := .tuple #[.agg #[.int .i64 2, .int .i64 0, .string (mk t.text), .slice none 0 0, .int .i64 t.at_], .agg #[.int .i64 0, .int .i64 0]]) (by simp [results, Tryd.results67, go_sem, *]) rfl ⟨⟨_, _, rfl, Tr.leaf, rfl, hi2, SZ.out.rd⟩, SZ.out.foot⟩
      | false =>
        simp only [Bool.false_eq_true, if_false]
        cases hdl : isS t [36] with
        | true =>
          have hi2 := HL.out (isS_kind hdl)
          simp only [if_true]
          go_enter Tryd.func67, Tryd.ntmps67
          go_wp2_with fail
          generalize (w.alloc (.cells #[.int .i64 0, .int .i64 0, .string ⟨#[]⟩, .slice none 0 0, .int .i64 0] 24)).alloc (.cells #[.int .i64 0, .int .i64 0] 47) = W1 at *
          refine (NX _ S0.out.rd).mono ?_
          rintro e w1 ⟨rfl, hf⟩
          have S1 := (((S0.out.still hf).alloc #[.int .i64 t.kind, .int .i64 t.at_, .int .i64 t.en, .string (mk t.text), .int .i64 t.n] 72).alloc #[.int .i64 0, .int .i64 0, .string ⟨#[]⟩, .slice none 0 0, .int .i64 t.at_] 24).alloc #[.int .i64 0, .int .i64 0] 47
          rw [size_alloc, size_alloc] at S1
          have S1 := Lib.hid S1
          have hz1 := ((S0.out.still hf).var 0 rfl).1.lt
          clear hf S0
          go_wp2_with fail
          generalize ((w1.alloc (.cells #[.int .i64 t.kind, .int .i64 t.at_, .int .i64 t.en, .string (mk t.text), .int .i64 t.n] 72)).alloc (.cells #[.int .i64 0, .int .i64 0, .string ⟨#[]⟩, .slice none 0 0, .int .i64 t.at_] 24)).alloc (.cells #[.int .i64 0, .int .i64 0] 47) = W2 at *
          refine (IS ⟨#[40]⟩ _).mono ?_
          rintro e w2 ⟨rfl, hf⟩
          rw [show bs ⟨#[40]⟩ = [40] from rfl, h40]
          have S2 := Lib.hid (S1.out.still hf)
          clear hf S1
          obtain ⟨t0, t1, t2, t3, t4⟩ := cells5 (S2.out.var 2 rfl).1
          go_wp2_with fail
          refine (IW ⟨#[105, 110]⟩ _).mono ?_
          rintro e w3 ⟨rfl, hf⟩
          rw [show bs ⟨#[105, 110]⟩ = [105, 110] from rfl, hin]
          have S3 := Lib.hid (S2.out.still hf)
          clear hf S2 t0 t1 t2 t3 t4
          obtain ⟨t0, t1, t2, t3, t4⟩ := cells5 (S3.out.var 2 rfl).1
          go_wp2_with fail
          refine (IN _).mono ?_
          rintro e w4 ⟨rfl, hf⟩
          rw [hnm]
          have S4 := Lib.hid (S3.out.still hf)
          clear hf S3 t0 t1 t2 t3 t4
          obtain ⟨t0, t1, t2, t3, t4⟩ := cells5 (S4.out.var 2 rfl).1
          go_wp2_with fail
          refine (IS ⟨#[36]⟩ _).mono ?_
          rintro e w5 ⟨rfl, hf⟩
          rw [show bs ⟨#[36]⟩ = [36] from rfl, hdl]
          have S5 := Lib.hid (S4.out.still hf)
          clear hf S4 t0 t1 t2 t3 t4
          obtain ⟨e0, e1, e2, e3, e4⟩ := cells5 (S5.out.var 1 rfl).1
          obtain ⟨ef0, ef1, ef2, ef3, ef4⟩ := free5 (S5.out.var 1 rfl).1
          obtain ⟨r0, r1, r2⟩ := cells3 S5.out.rd.rd
          have r3 := S5.out.rd.rd.free 1
          have S6 := Lib.hid ((S5.out.set 1 rfl 0 (.int .i64 3)).inc)
          clear S5
          go_wp2_with fail
          generalize (w5.setCell ⟨w1.heap.size + 1, 0, none⟩ (.int .i64 3)).setCell ⟨R, 1, none⟩ (.int .i64 ((i : Int) + 1)) = W9 at *
          obtain ⟨f0, f1⟩ := cells2 (S6.out.var 0 rfl).1
          have ff0 := (S6.out.var 0 rfl).1.free 0
          have ff1 := (S6.out.var 0 rfl).1.free 1
          obtain ⟨e0, e1, e2, e3, e4⟩ := cells5 (S6.out.var 1 rfl).1
          obtain ⟨ef0, ef1, ef2, ef3, ef4⟩ := free5 (S6.out.var 1 rfl).1
          obtain ⟨g0, g1⟩ := cells2 (S6.out.var 3 rfl).1
          have gf0 := (S6.out.var 3 rfl).1.free 0
          have gf1 := (S6.out.var 3 rfl).1.free 1
          obtain ⟨x0, x1, x2, x3, x4⟩ := cells5 (S6.out.var 4 rfl).1
          obtain ⟨xf0, xf1, xf2, xf3, xf4⟩ := free5 (S6.out.var 4 rfl).1
          have SZ := Lib.hid (((S6.out.set5 4 rfl (.int .i64 3) (.int .i64 0) (.string ⟨#[]⟩) (.slice none 0 0) (.int .i64 t.at_)).set2 3 rfl (.int .i64 0) (.int .i64 0)).drew)
          clear S6
          go_region
          go_wp2_with fail
          refine bodyPost_ret (v := .tuple #[.agg #[.int .i64 3, .int .i64 0, .string ⟨#[]⟩, .slice none 0 0, .int .i64 t.at_], .agg #[.int .i64 0, .int .i64 0]]) (by simp [results, Tryd.results67, go_sem, *]) rfl ⟨⟨_, _, rfl, Tr.leaf, rfl, hi2, SZ.out.rd⟩, SZ.out.foot⟩
        | false =>
          simp only [Bool.false_eq_true, if_false]
          by_cases hk2 : t.kind = 2
          · have hi2 := HL.out (by omega)
            have hkb : (t.kind == 2) = true := by rw [hk2]; rfl
            simp only [if_pos hk2]
            clear hk2
            go_enter Tryd.func67, Tryd.ntmps67
            go_wp2_with fail
            generalize (w.alloc (.cells #[.int .i64 0, .int .i64 0, .string ⟨#[]⟩, .slice none 0 0, .int .i64 0] 24)).alloc (.cells #[.int .i64 0, .int .i64 0] 47) = W1 at *
            refine (NX _ S0.out.rd).mono ?_
            rintro e w1 ⟨rfl, hf⟩
            have S1 := (((S0.out.still hf).alloc #[.int .i64 t.kind, .int .i64 t.at_, .int .i64 t.en, .string (mk t.text), .int .i64 t.n] 72).alloc #[.int .i64 0, .int .i64 0, .string ⟨#[]⟩, .slice none 0 0, .int .i64 t.at_] 24).alloc #[.int .i64 0, .int .i64 0] 47
            rw [size_alloc, size_alloc] at S1
            have S1 := Lib.hid S1
            have hz1 := ((S0.out.still hf).var 0 rfl).1.lt
            clear hf S0
            go_wp2_with fail
            generalize ((w1.alloc (.cells #[.int .i64 t.kind, .int .i64 t.at_, .int .i64 t.en, .string (mk t.text), .int .i64 t.n] 72)).alloc (.cells #[.int .i64 0, .int .i64 0, .string ⟨#[]⟩, .slice none 0 0, .int .i64 t.at_] 24)).alloc (.cells #[.int .i64 0, .int .i64 0] 47) = W2 at *
            refine (IS ⟨#[40]⟩ _).mono ?_
            rintro e w2 ⟨rfl, hf⟩
            rw [show bs ⟨#[40]⟩ = [40] from rfl, h40]
            have S2 := Lib.hid (S1.out.still hf)
            clear hf S1
            obtain ⟨t0, t1, t2, t3, t4⟩ := cells5 (S2.out.var 2 rfl).1
            go_wp2_with fail
            refine (IW ⟨#[105, 110]⟩ _).mono ?_
            rintro e w3 ⟨rfl, hf⟩
            rw [show bs ⟨#[105, 110]⟩ = [105, 110] from rfl, hin]
            have S3 := Lib.hid (S2.out.still hf)
            clear hf S2 t0 t1 t2 t3 t4
            obtain ⟨t0, t1, t2, t3, t4⟩ := cells5 (S3.out.var 2 rfl).1
            go_wp2_with fail
            refine (IN _).mono ?_
            rintro e w4 ⟨rfl, hf⟩
            rw [hnm]
            have S4 := Lib.hid (S3.out.still hf)
            clear hf S3 t0 t1 t2 t3 t4
            obtain ⟨t0, t1, t2, t3, t4⟩ := cells5 (S4.out.var 2 rfl).1
            go_wp2_with fail
            refine (IS ⟨#[36]⟩ _).mono ?_
            rintro e w5 ⟨rfl, hf⟩
            rw [show bs ⟨#[36]⟩ = [36] from rfl, hdl]
            have S5 := Lib.hid (S4.out.still hf)
            clear hf S4 t0 t1 t2 t3 t4
            obtain ⟨t0, t1, t2, t3, t4⟩ := cells5 (S5.out.var 2 rfl).1
            obtain ⟨tf0, tf1, tf2, tf3, tf4⟩ := free5 (S5.out.var 2 rfl).1
            obtain ⟨e0, e1, e2, e3, e4⟩ := cells5 (S5.out.var 1 rfl).1
            obtain ⟨ef0, ef1, ef2, ef3, ef4⟩ := free5 (S5.out.var 1 rfl).1
            have S6 := Lib.hid (((S5.out.set 1 rfl 0 (.int .i64 1)).set 1 rfl 1 (.int .i64 t.n)).drew)
            clear S5
            go_wp2_with fail
            go_region
            go_upto_region 18 with fail
            generalize ((w5.setCell ⟨w1.heap.size + 1, 0, none⟩ (.int .i64 1)).setCell ⟨w1.heap.size + 1, 1, none⟩ (.int .i64 t.n)).drew = W6 at *
            obtain ⟨r0, r1, r2⟩ := cells3 S6.out.rd.rd
            have r3 := S6.out.rd.rd.free 1
            have S7 := Lib.hid S6.out.inc
            clear S6
            go_wp2_with fail
            generalize W6.setCell ⟨R, 1, none⟩ (.int .i64 ((i : Int) + 1)) = W9 at *
            obtain ⟨f0, f1⟩ := cells2 (S7.out.var 0 rfl).1
            have ff0 := (S7.out.var 0 rfl).1.free 0
            have ff1 := (S7.out.var 0 rfl).1.free 1
            obtain ⟨e0, e1, e2, e3, e4⟩ := cells5 (S7.out.var 1 rfl).1
            obtain ⟨ef0, ef1, ef2, ef3, ef4⟩ := free5 (S7.out.var 1 rfl).1
            obtain ⟨g0, g1⟩ := cells2 (S7.out.var 3 rfl).1
            have gf0 := (S7.out.var 3 rfl).1.free 0
            have gf1 := (S7.out.var 3 rfl).1.free 1
            obtain ⟨x0, x1, x2, x3, x4⟩ := cells5 (S7.out.var 4 rfl).1
            obtain ⟨xf0, xf1, xf2, xf3, xf4⟩ := free5 (S7.out.var 4 rfl).1
            have SZ := Lib.hid (((S7.out.set5 4 rfl (.int .i64 1) (.int .i64 t.n) (.string ⟨#[]⟩) (.slice none 0 0) (.int .i64 t.at_)).set2 3 rfl (.int .i64 0) (.int .i64 0)).drew)
            clear S7
            go_region
            go_wp2_with fail
            refine bodyPost_ret (v := .tuple #[.agg #[.int .i64 1, .int .i64 t.n, .string ⟨#[]⟩, .slice none 0 0, .int .i64 t.at_], .agg #[.int .i64 0, .int .i64 0]]) (by simp [results, Tryd.results67, go_sem, *]) rfl ⟨⟨_, _, rfl, Tr.leaf, rfl, hi2, SZ.out.rd⟩, SZ.out.foot⟩
          · have hkb : (t.kind == 2) = false := by rw [beq_eq_false_iff_ne]; exact hk2
            simp only [if_neg hk2]
            clear hk2
            go_enter Tryd.func67, Tryd.ntmps67
            go_wp2_with fail
            generalize (w.alloc (.cells #[.int .i64 0, .int .i64 0, .string ⟨#[]⟩, .slice none 0 0, .int .i64 0] 24)).alloc (.cells #[.int .i64 0, .int .i64 0] 47) = W1 at *
            refine (NX _ S0.out.rd).mono ?_
            rintro e w1 ⟨rfl, hf⟩
            have S1 := (((S0.out.still hf).alloc #[.int .i64 t.kind, .int .i64 t.at_, .int .i64 t.en, .string (mk t.text), .int .i64 t.n] 72).alloc #[.int .i64 0, .int .i64 0, .string ⟨#[]⟩, .slice none 0 0, .int .i64 t.at_] 24).alloc #[.int .i64 0, .int .i64 0] 47
            rw [size_alloc, size_alloc] at S1
            have S1 := Lib.hid S1
            have hz1 := ((S0.out.still hf).var 0 rfl).1.lt
            clear hf S0
            go_wp2_with fail
            generalize ((w1.alloc (.cells #[.int .i64 t.kind, .int .i64 t.at_, .int .i64 t.en, .string (mk t.text), .int .i64 t.n] 72)).alloc (.cells #[.int .i64 0, .int .i64 0, .string ⟨#[]⟩, .slice none 0 0, .int .i64 t.at_] 24)).alloc (.cells #[.int .i64 0, .int .i64 0] 47) = W2 at *
            refine (IS ⟨#[40]⟩ _).mono ?_
            rintro e w2 ⟨rfl, hf⟩
            rw [show bs ⟨#[40]⟩ = [40] from rfl, h40]
            have S2 := Lib.hid (S1.out.still hf)
            clear hf S1
            obtain ⟨t0, t1, t2, t3, t4⟩ := cells5 (S2.out.var 2 rfl).1
            go_wp2_with fail
            refine (IW ⟨#[105, 110]⟩ _).mono ?_
            rintro e w3 ⟨rfl, hf⟩
            rw [show bs ⟨#[105, 110]⟩ = [105, 110] from rfl, hin]
            have S3 := Lib.hid (S2.out.still hf)
            clear hf S2 t0 t1 t2 t3 t4
            obtain ⟨t0, t1, t2, t3, t4⟩ := cells5 (S3.out.var 2 rfl).1
            go_wp2_with fail
            refine (IN _).mono ?_
            rintro e w4 ⟨rfl, hf⟩
            rw [hnm]
            have S4 := Lib.hid (S3.out.still hf)
            clear hf S3 t0 t1 t2 t3 t4
            obtain ⟨t0, t1, t2, t3, t4⟩ := cells5 (S4.out.var 2 rfl).1
            go_wp2_with fail
            refine (IS ⟨#[36]⟩ _).mono ?_
            rintro e w5 ⟨rfl, hf⟩
            rw [show bs ⟨#[36]⟩ = [36] from rfl, hdl]
            have S5 := Lib.hid (S4.out.still hf)
            clear hf S4 t0 t1 t2 t3 t4
            obtain ⟨t0, t1, t2, t3, t4⟩ := cells5 (S5.out.var 2 rfl).1
            go_wp2_with fail
            refine (UN _).mono ?_
            rintro e w6 ⟨rfl, hf⟩
            have S6 := Lib.hid (S5.out.still hf)
            clear hf S5
            obtain ⟨f0, f1⟩ := cells2 (S6.out.var 0 rfl).1
            have ff0 := (S6.out.var 0 rfl).1.free 0
            have ff1 := (S6.out.var 0 rfl).1.free 1
            have S7 := Lib.hid (S6.out.set2 0 rfl (.int .i64 (badT t).1) (.int .i64 (badT t).2))
            clear S6
            go_wp2_with fail
            generalize (w6.setCell ⟨w1.heap.size + 2, 0, none⟩ (.int .i64 (badT t).1)).setCell ⟨w1.heap.size + 2, 1, none⟩ (.int .i64 (badT t).2) = W9 at *
            obtain ⟨f0, f1⟩ := cells2 (S7.out.var 0 rfl).1
            have ff0 := (S7.out.var 0 rfl).1.free 0
            have ff1 := (S7.out.var 0 rfl).1.free 1
            obtain ⟨e0, e1, e2, e3, e4⟩ := cells5 (S7.out.var 1 rfl).1
            obtain ⟨ef0, ef1, ef2, ef3, ef4⟩ := free5 (S7.out.var 1 rfl).1
            obtain ⟨g0, g1⟩ := cells2 (S7.out.var 3 rfl).1
            have gf0 := (S7.out.var 3 rfl).1.free 0
            have gf1 := (S7.out.var 3 rfl).1.free 1
            obtain ⟨x0, x1, x2, x3, x4⟩ := cells5 (S7.out.var 4 rfl).1
            obtain ⟨xf0, xf1, xf2, xf3, xf4⟩ := free5 (S7.out.var 4 rfl).1
            have SZ := Lib.hid (((S7.out.set5 4 rfl (.int .i64 0) (.int .i64 0) (.string ⟨#[]⟩) (.slice none 0 0) (.int .i64 t.at_)).set2 3 rfl (.int .i64 (badT t).1) (.int .i64 (badT t).2)).drew)
            clear S7
            go_region
            go_wp2_with fail
            refine bodyPost_ret (v := .tuple #[.agg #[.int .i64 0, .int .i64 0, .string ⟨#[]⟩, .slice none 0 0, .int .i64 t.at_], .agg #[.int .i64 (badT t).1, .int .i64 (badT t).2]]) (by simp [results, Tryd.results67, go_sem, *]) rfl ⟨⟨_, _, o, rfl, ⟨_, _, _, _, _, _, _, rfl⟩, (bad_bne t).2.2, by omega, hi, SZ.out.rd⟩, SZ.out.foot⟩
end Go.Proofs.YtdibkgjldmepcaaDoor.Xp
