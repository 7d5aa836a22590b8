/- bracketed. -/
import Derived.Test.YtdibkgjldmepcaaDoorPe
import Derived.Deep.RegionWith
import Derived.Deep.Cut
import Derived.Deep.DeepCutAuto
import Derived.Deep.CutBlock
import Derived.Deep.LoopGhost
namespace Go.Proofs.YtdibkgjldmepcaaDoor.Xp
open Go.RowKit Mem Lex Gen
set_option linter.unusedVariables false
set_option linter.unusedSimpArgs false

theorem keepL {w w' : World} {B : Nat} {u : Value} {x : Ex} (h : Tr w (fun k => B ≤ k) u x) (hf : Foot (fun k => k < B) w w') : Tr w' (fun k => B ≤ k) u x := h.keep hf fun k hk hb => by omega
theorem foot2' {S : Nat → Prop} {w0 w : World} (h : Foot S w0 w) {g : Nat} (hg : S g) (u0 u1 : Value) : Foot S w0 ((w.setCell ⟨g, 0, none⟩ u0).setCell ⟨g, 1, none⟩ u1) :=
  (h.setCell (p := ⟨g, 0, none⟩) (fun _ => hg) u0).setCell (p := ⟨g, 1, none⟩) (fun _ => hg) u1
theorem foot5' {S : Nat → Prop} {w0 w : World} (h : Foot S w0 w) {g : Nat} (hg : S g) (u0 u1 u2 u3 u4 : Value) :
    Foot S w0 (((((w.setCell ⟨g, 0, none⟩ u0).setCell ⟨g, 1, none⟩ u1).setCell ⟨g, 2, none⟩ u2).setCell ⟨g, 3, none⟩ u3).setCell ⟨g, 4, none⟩ u4) :=
  (((foot2' h hg u0 u1).setCell (p := ⟨g, 2, none⟩) (fun _ => hg) u2).setCell (p := ⟨g, 3, none⟩) (fun _ => hg) u3).setCell (p := ⟨g, 4, none⟩) (fun _ => hg) u4
set_option maxHeartbeats 2000000 in
set_option maxRecDepth 100000 in
theorem bracketed_c (F : Nat) (hop : OpC F) (R : Nat) (v : Value) (ts : List Tok) (i o : Nat) (w : World) (h : Rd w R v ts i o) (hE : Ends ts) (hi0 : i < ts.length) (hi : i + 1 < ts.length) (ho : o ≤ 12) (hF : need (.lvl 1) (ts.length - (i + 1)) ≤ F) :
    Calls Tryd.prog 75 #[.pointer (some ⟨R, 0, none⟩)] w fun e w' =>
      Post w w' R v ts o (if o = 12 then .error (14, (ts[i]'hi0).at_) else thenP (prs F (.lvl 1) (ts.drop (i + 1)) (o + 1)) fun x r' => wantS [41] r' fun r'' => .ok (x, r'')) e ∧ Foot (fun k => k = R) w w' := by
  have S0 := ((St.start h).alloc #[.int .i64 0, .int .i64 0, .string ⟨#[]⟩, .slice none 0 0, .int .i64 0] 24).alloc #[.int .i64 0, .int .i64 0] 47
  rw [size_alloc] at S0
  have EN := fun W hW => enter_c R v ts i o W hW (by omega) ho
  have hlt0 := h.lt
  obtain ⟨a, c, rfl⟩ := h.shape
  generalize (ts[i]'hi0) = t at *
  have S0 := Lib.hid S0
  have HE := Lib.hid hE
  have HF := Lib.hid hF
  clear h hE hF
  by_cases h12 : o = 12
  · simp only [if_pos h12] at EN ⊢
    go_enter Tryd.func75, Tryd.ntmps75
    go_wp2_with fail
    generalize (w.alloc (.cells #[.int .i64 0, .int .i64 0, .string ⟨#[]⟩, .slice none 0 0, .int .i64 0] 24)).alloc (.cells #[.int .i64 0, .int .i64 0] 47) = W1 at *
    refine (EN _ S0.out.rd).mono ?_
    rintro e w1 ⟨⟨rfl, hr⟩, hf⟩
    have hz1 := ((S0.out.step hr hf).var 0 rfl).1.lt
    have S1 := Lib.hid ((S0.out.step hr hf).alloc #[.int .i64 14, .int .i64 t.at_] 47)
    clear hf hr S0
    have hlt := S1.out.lt
    go_wp2_with fail
    generalize w1.alloc (.cells #[.int .i64 14, .int .i64 t.at_] 47) = W2 at *
    obtain ⟨l0, l1⟩ := cells2 (S1.out.var 0 rfl).1
    have lf0 := (S1.out.var 0 rfl).1.free 0
    have lf1 := (S1.out.var 0 rfl).1.free 1
    obtain ⟨g0, g1⟩ := cells2 (S1.out.var 1 rfl).1
    have gf0 := (S1.out.var 1 rfl).1.free 0
    have gf1 := (S1.out.var 1 rfl).1.free 1
    obtain ⟨x0, x1, x2, x3, x4⟩ := cells5 (S1.out.var 2 rfl).1
    obtain ⟨xf0, xf1, xf2, xf3, xf4⟩ := free5 (S1.out.var 2 rfl).1
    have S2 := Lib.hid (((S1.out.set5 2 rfl (.int .i64 0) (.int .i64 0) (.string ⟨#[]⟩) (.slice none 0 0) (.int .i64 0)).set2 1 rfl (.int .i64 14) (.int .i64 t.at_)).drew)
    have hs1 := (S1.out.var 0 rfl).2
    clear S1
    go_region
    go_wp2_with fail
    refine bodyPost_ret (v := .tuple #[.agg #[.int .i64 0, .int .i64 0, .string ⟨#[]⟩, .slice none 0 0, .int .i64 0], .agg #[.int .i64 14, .int .i64 t.at_]]) (by simp [results, Tryd.results75, go_sem, *]) rfl ⟨⟨_, _, o, rfl, ⟨_, _, _, _, _, _, _, rfl⟩, by omega, by omega, by omega, S2.out.rd⟩, S2.out.foot⟩
  · simp only [if_neg h12] at EN ⊢
    have OP := fun W hW => hop 1 (by omega) (by omega) R (.slice a ts.length c) ts (i + 1) (o + 1) W hW HE.out hi (by omega) HF.out
    cases hq : prs F (.lvl 1) (ts.drop (i + 1)) (o + 1) with
    | error z =>
      obtain ⟨cc, pp⟩ := z
      rw [hq] at OP
      unfold thenP
      dsimp only
      go_enter Tryd.func75, Tryd.ntmps75
      go_wp2_with fail
      generalize (w.alloc (.cells #[.int .i64 0, .int .i64 0, .string ⟨#[]⟩, .slice none 0 0, .int .i64 0] 24)).alloc (.cells #[.int .i64 0, .int .i64 0] 47) = W1 at *
      refine (EN _ S0.out.rd).mono ?_
      rintro e w1 ⟨⟨rfl, hr⟩, hf⟩
      have hz1 := ((S0.out.step hr hf).var 0 rfl).1.lt
      have S1 := Lib.hid ((S0.out.step hr hf).alloc #[.int .i64 0, .int .i64 0] 47)
      clear hf hr S0
      have hlt := S1.out.lt
      go_wp2_with fail
      have hsz2 := size_alloc w1 (.cells #[.int .i64 0, .int .i64 0] 47)
      generalize w1.alloc (.cells #[.int .i64 0, .int .i64 0] 47) = W2 at *
      refine (OP _ S1.out.rd).mono ?_
      rintro e w2 ⟨hp, hf⟩
      obtain ⟨u, j, o', rfl, ⟨k1, n1, s1, a1, m1, c1, p1, rfl⟩, hcc, hoo, hj, hr⟩ := hp
      have b1 : (cc != 0) = true := by rw [bne_iff_ne]; exact hcc
      have b2 : (cc == 0) = false := by rw [beq_eq_false_iff_ne]; exact hcc
      have S2 := Lib.hid (S1.out.step hr hf)
      have hz2 := (S2.out.var 0 rfl).1.lt
      clear hf hr S1
      obtain ⟨l0, l1⟩ := cells2 (S2.out.var 0 rfl).1
      have lf0 := (S2.out.var 0 rfl).1.free 0
      have lf1 := (S2.out.var 0 rfl).1.free 1
      have S3 := ((S2.out.set2 0 rfl (.int .i64 cc) (.int .i64 pp)).alloc #[.int .i64 k1, .int .i64 n1, .string s1, .slice a1 m1 c1, .int .i64 p1] 24)
      rw [size_set, size_set] at S3
      have S3 := Lib.hid S3
      go_wp2_with fail
      generalize ((w2.setCell ⟨w1.heap.size, 0, none⟩ (.int .i64 cc)).setCell ⟨w1.heap.size, 1, none⟩ (.int .i64 pp)).alloc (.cells #[.int .i64 k1, .int .i64 n1, .string s1, .slice a1 m1 c1, .int .i64 p1] 24) = W3 at *
      obtain ⟨l0, l1⟩ := cells2 (S3.out.var 1 rfl).1
      have lf0 := (S3.out.var 1 rfl).1.free 0
      have lf1 := (S3.out.var 1 rfl).1.free 1
      obtain ⟨g0, g1⟩ := cells2 (S3.out.var 2 rfl).1
      have gf0 := (S3.out.var 2 rfl).1.free 0
      have gf1 := (S3.out.var 2 rfl).1.free 1
      obtain ⟨x0, x1, x2, x3, x4⟩ := cells5 (S3.out.var 3 rfl).1
      obtain ⟨xf0, xf1, xf2, xf3, xf4⟩ := free5 (S3.out.var 3 rfl).1
      have S4 := Lib.hid (((S3.out.set5 3 rfl (.int .i64 0) (.int .i64 0) (.string ⟨#[]⟩) (.slice none 0 0) (.int .i64 0)).set2 2 rfl (.int .i64 cc) (.int .i64 pp)).drew)
      clear S3
      go_region
      go_wp2_with fail
      refine bodyPost_ret (v := .tuple #[.agg #[.int .i64 0, .int .i64 0, .string ⟨#[]⟩, .slice none 0 0, .int .i64 0], .agg #[.int .i64 cc, .int .i64 pp]]) (by simp [results, Tryd.results75, go_sem, *]) rfl ⟨⟨_, _, o', rfl, ⟨_, _, _, _, _, _, _, rfl⟩, hcc, by omega, hj, S4.out.rd⟩, S4.out.foot⟩
    | ok z =>
      obtain ⟨x, l⟩ := z
      rw [hq] at OP
      unfold thenP
      dsimp only
      go_enter Tryd.func75, Tryd.ntmps75
      go_wp2_with fail
      generalize (w.alloc (.cells #[.int .i64 0, .int .i64 0, .string ⟨#[]⟩, .slice none 0 0, .int .i64 0] 24)).alloc (.cells #[.int .i64 0, .int .i64 0] 47) = W1 at *
      refine (EN _ S0.out.rd).mono ?_
      rintro e w1 ⟨⟨rfl, hr⟩, hf⟩
      have hz1 := ((S0.out.step hr hf).var 0 rfl).1.lt
      have S1 := Lib.hid ((S0.out.step hr hf).alloc #[.int .i64 0, .int .i64 0] 47)
      clear hf hr S0
      have hlt := S1.out.lt
      go_wp2_with fail
      have hsz2 := size_alloc w1 (.cells #[.int .i64 0, .int .i64 0] 47)
      generalize w1.alloc (.cells #[.int .i64 0, .int .i64 0] 47) = W2 at *
      refine (OP _ S1.out.rd).mono ?_
      rintro e w2 ⟨hp, hf⟩
      obtain ⟨u, j, rfl, hTr, hl, hj, hr⟩ := hp
      obtain ⟨k1, n1, s1, a1, m1, c1, p1, rfl⟩ := hTr.five
      have S2 := Lib.hid (S1.out.step hr hf)
      have hz2 := (S2.out.var 0 rfl).1.lt
      have hB : w.heap.size + 2 ≤ w1.heap.size + 1 := by omega
      have hTr := hTr.weak (P' := fun k => w1.heap.size + 1 ≤ k) (fun k _ hk => by rw [← hsz2]; exact hk)
      have hsz2' := hsz2
      clear hf hr S1
      obtain ⟨l0, l1⟩ := cells2 (S2.out.var 0 rfl).1
      have lf0 := (S2.out.var 0 rfl).1.free 0
      have lf1 := (S2.out.var 0 rfl).1.free 1
      have S3 := ((S2.out.set2 0 rfl (.int .i64 0) (.int .i64 0)).alloc #[.int .i64 k1, .int .i64 n1, .string s1, .slice a1 m1 c1, .int .i64 p1] 24)
      rw [size_set, size_set] at S3
      have HT := Lib.hid (keepL hTr (((foot2' (Foot.refl (fun k => k < w1.heap.size + 1) w2) (show w1.heap.size < w1.heap.size + 1 by omega) (.int .i64 0) (.int .i64 0))).alloc (.cells #[.int .i64 k1, .int .i64 n1, .string s1, .slice a1 m1 c1, .int .i64 p1] 24)))
      have S3 := Lib.hid S3
      clear hTr
      go_upto_region 7 with fail
      generalize ((w2.setCell ⟨w1.heap.size, 0, none⟩ (.int .i64 0)).setCell ⟨w1.heap.size, 1, none⟩ (.int .i64 0)).alloc (.cells #[.int .i64 k1, .int .i64 n1, .string s1, .slice a1 m1 c1, .int .i64 p1] 24) = W3 at *
      obtain ⟨r0, r1, r2⟩ := cells3 S3.out.rd.rd
      have r3 := S3.out.rd.rd.free 2
      have hw2 : IntKind.i64.wrap ((o : Int) + 1 - 1) = o := by rw [IntKind.wrap_i64]; omega
      have r2 : W3.cell? ⟨R, 2, none⟩ = some (.int .i64 ((o : Int) + 1)) := r2
      have S4 := Lib.hid S3.out.decO
      have HT4 := Lib.hid (keepL HT.out ((Foot.refl (fun k => k < w1.heap.size + 1) W3).setCell (p := ⟨R, 2, none⟩) (fun _ => by simp only; omega) (.int .i64 (o : Int))))
      clear S2 S3
      go_wp2_with fail
      generalize W3.setCell ⟨R, 2, none⟩ (.int .i64 o) = W4 at *
      obtain ⟨y0, y1, y2, y3, y4⟩ := cells5 (S4.out.var 0 rfl).1
      obtain ⟨yf0, yf1, yf2, yf3, yf4⟩ := free5 (S4.out.var 0 rfl).1
      obtain ⟨x0, x1, x2, x3, x4⟩ := cells5 (S4.out.var 3 rfl).1
      obtain ⟨xf0, xf1, xf2, xf3, xf4⟩ := free5 (S4.out.var 3 rfl).1
      obtain ⟨g0, g1⟩ := cells2 (S4.out.var 2 rfl).1
      have gf0 := (S4.out.var 2 rfl).1.free 0
      have gf1 := (S4.out.var 2 rfl).1.free 1
      have S5 := Lib.hid S4.out.drew
      have HT4 : Hid (Tr W4 (fun k => w1.heap.size + 1 ≤ k) _ x) := HT4
      clear S4
      have hj2 : j + 1 ≤ ts.length := by omega
      obtain ⟨t2, l2, hl2⟩ : ∃ t2 l2, l = t2 :: l2 := ⟨_, _, hl.trans (drop_at hj)⟩
      have hjt : ts[j] = t2 ∧ ts.drop (j + 1) = l2 := by
        have h1 := drop_at hj
        rw [← hl, hl2] at h1
        exact ⟨(List.cons.inj h1).1.symm, (List.cons.inj h1).2.symm⟩
      have TK := fun W hW => take_c R (.slice a ts.length c) ts j o ⟨#[41]⟩ W hW hj
      rw [hjt.1, show bs ⟨#[41]⟩ = [41] from rfl] at TK
      cases hb : isS t2 [41] with
      | false =>
        simp only [hb, Bool.false_eq_true, if_false] at TK
        obtain ⟨b1, b2, b3⟩ := bad_bne t2
        clear hl
        go_region_with (go_at_call 91; refine (TK _ S5.out.rd).mono ?_; rintro e w5 ⟨⟨rfl, hr⟩, hf⟩; (obtain ⟨gx0, gx1⟩ := cells2 ((S5.out.step hr hf).var 2 rfl).1); (have gxf0 := ((S5.out.step hr hf).var 2 rfl).1.free 0); (have gxf1 := ((S5.out.step hr hf).var 2 rfl).1.free 1); (obtain ⟨xx0, xx1, xx2, xx3, xx4⟩ := cells5 ((S5.out.step hr hf).var 3 rfl).1); (obtain ⟨xf0, xf1, xf2, xf3, xf4⟩ := free5 ((S5.out.step hr hf).var 3 rfl).1); (obtain ⟨yx0, yx1, yx2, yx3, yx4⟩ := cells5 ((S5.out.step hr hf).var 0 rfl).1); have S6 := Lib.hid (((S5.out.step hr hf).set5 3 rfl (.int .i64 k1) (.int .i64 n1) (.string s1) (.slice a1 m1 c1) (.int .i64 p1)).set2 2 rfl (.int .i64 (badT t2).1) (.int .i64 (badT t2).2)); have HT6 := Lib.hid (keepL HT4.out (foot2' ((foot5' ((Foot.refl (fun k => k < w1.heap.size + 1) W4).drew.trans (hf.mono fun k _ (hk : k = R) => (by rw [hk]; omega : k < w1.heap.size + 1)) fun _ _ h => h) (show w.heap.size < w1.heap.size + 1 by omega) (.int .i64 k1) (.int .i64 n1) (.string s1) (.slice a1 m1 c1) (.int .i64 p1))) (show w.heap.size + 1 < w1.heap.size + 1 by omega) (.int .i64 (badT t2).1) (.int .i64 (badT t2).2))); clear hr hf)
        all_goals go_wp2_with fail
        all_goals (refine bodyPost_ret (v := .tuple #[.agg #[.int .i64 k1, .int .i64 n1, .string s1, .slice a1 m1 c1, .int .i64 p1], .agg #[.int .i64 (badT t2).1, .int .i64 (badT t2).2]]) (by simp [results, Tryd.results75, go_sem, *]) rfl ⟨?_, S6.out.foot⟩; rw [hl2]; simp only [wantS, hb, Bool.false_eq_true, if_false]; exact ⟨_, _, o, rfl, ⟨_, _, _, _, _, _, _, rfl⟩, b3, by omega, by omega, S6.out.rd⟩)
      | true =>
        have hj3 : j + 1 < ts.length := HE.out.last hj (by rw [hjt.1]; exact isS_kind hb)
        simp only [hb, if_true] at TK
        clear hl
        go_region_with (go_at_call 91; refine (TK _ S5.out.rd).mono ?_; rintro e w5 ⟨⟨rfl, hr⟩, hf⟩; (obtain ⟨gx0, gx1⟩ := cells2 ((S5.out.step hr hf).var 2 rfl).1); (have gxf0 := ((S5.out.step hr hf).var 2 rfl).1.free 0); (have gxf1 := ((S5.out.step hr hf).var 2 rfl).1.free 1); (obtain ⟨xx0, xx1, xx2, xx3, xx4⟩ := cells5 ((S5.out.step hr hf).var 3 rfl).1); (obtain ⟨xf0, xf1, xf2, xf3, xf4⟩ := free5 ((S5.out.step hr hf).var 3 rfl).1); (obtain ⟨yx0, yx1, yx2, yx3, yx4⟩ := cells5 ((S5.out.step hr hf).var 0 rfl).1); have S6 := Lib.hid (((S5.out.step hr hf).set5 3 rfl (.int .i64 k1) (.int .i64 n1) (.string s1) (.slice a1 m1 c1) (.int .i64 p1)).set2 2 rfl (.int .i64 0) (.int .i64 0)); have HT6 := Lib.hid (keepL HT4.out (foot2' ((foot5' ((Foot.refl (fun k => k < w1.heap.size + 1) W4).drew.trans (hf.mono fun k _ (hk : k = R) => (by rw [hk]; omega : k < w1.heap.size + 1)) fun _ _ h => h) (show w.heap.size < w1.heap.size + 1 by omega) (.int .i64 k1) (.int .i64 n1) (.string s1) (.slice a1 m1 c1) (.int .i64 p1))) (show w.heap.size + 1 < w1.heap.size + 1 by omega) (.int .i64 0) (.int .i64 0))); clear hr hf)
        all_goals go_wp2_with fail
        all_goals (refine bodyPost_ret (v := .tuple #[.agg #[.int .i64 k1, .int .i64 n1, .string s1, .slice a1 m1 c1, .int .i64 p1], .agg #[.int .i64 0, .int .i64 0]]) (by simp [results, Tryd.results75, go_sem, *]) rfl ⟨?_, S6.out.foot⟩; rw [hl2]; simp only [wantS, hb, if_true]; exact ⟨_, j + 1, rfl, HT6.out.weak (fun k _ hk => by omega), hjt.2.symm, hj3, S6.out.rd⟩)
end Go.Proofs.YtdibkgjldmepcaaDoor.Xp
