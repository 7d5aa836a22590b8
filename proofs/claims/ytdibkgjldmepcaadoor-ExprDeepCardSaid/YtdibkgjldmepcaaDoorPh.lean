/- prefixed. -/
import Derived.Test.YtdibkgjldmepcaaDoorPf
import Derived.Test.YtdibkgjldmepcaaDoorGenYn
namespace Go.Proofs.YtdibkgjldmepcaaDoor.Xp
open Go.RowKit Mem Lex Gen
set_option linter.unusedVariables false
set_option linter.unusedSimpArgs false

theorem elem_Ex : ElemT 22 24 5 := ElemT.mk' Tryd.underlying22 (show (Tryd.prog.info? 24).map (fun i => (i.zero, i.size, i.bytes)) = some (some (.agg #[.int .i64 0, .int .i64 0, .string ⟨#[]⟩, .slice none 0 0, .int .i64 0]), 5, 64) by kernel_rfl) rfl (by decide)
set_option maxHeartbeats 4000000 in
set_option maxRecDepth 100000 in
theorem prefixed_c (F : Nat) (hun : UnC F) (hsg : SgC F) : UnC (F + 1) := by
  intro R v ts i o w h hE hi ho hF
  have S0 := ((St.start h).alloc #[.int .i64 0, .int .i64 0, .string ⟨#[]⟩, .slice none 0 0, .int .i64 0] 24).alloc #[.int .i64 0, .int .i64 0] 47
  rw [size_alloc] at S0
  have NX := fun W hW => next_c R v ts i o W hW hi
  have IS := fun (s : ByteArray) W => isSign_c ts[i] s W
  have EN := fun W hW => enter_c R v ts i o W hW hi ho
  have SG := fun W hW => hsg R v ts i o W hW hE hi ho (by simp only [need] at hF ⊢; omega)
  have HI : Hid (ts[i].kind ≠ 4 → ∀ (ho : ¬ o = 12) W, Rd W R v ts (i + 1) (o + 1) → Calls Tryd.prog 51 #[.pointer (some ⟨R, 0, none⟩)] W fun e w' => Post W w' R v ts (o + 1) (prs F .un (ts.drop (i + 1)) (o + 1)) e ∧ Foot (fun k => k = R) W w') :=
    Lib.hid fun hk ho' W hW => hun R v ts (i + 1) (o + 1) W hW hE (hE.last hi hk) (by omega) (by have := hE.last hi hk; simp only [need] at hF ⊢; omega)
  have hw1 : IntKind.i64.wrap ((i : Int) + 1) = (i : Int) + 1 := by have := h.few; rw [IntKind.wrap_i64]; omega
  have hlt0 := h.lt
  rw [drop_at hi] at SG ⊢
  rw [prs]
  obtain ⟨a, c, rfl⟩ := h.shape
  generalize ts[i] = t at NX IS EN SG HI ⊢
  unfold tokV at NX IS
  rw [strV_mk] at NX
  simp only [strV_mk] at IS
  have S0 := Lib.hid S0
  clear h hE hF hun hsg
  try dsimp only
  cases h45 : isS t [45] with
  | true =>
    simp only [if_true]
    by_cases h12 : o = 12
    · simp only [if_pos h12] at EN ⊢
      go_enter Tryd.func51, Tryd.ntmps51
      go_wp2_with fail
      generalize (w.alloc (.cells #[.int .i64 0, .int .i64 0, .string ⟨#[]⟩, .slice none 0 0, .int .i64 0] 24)).alloc (.cells #[.int .i64 0, .int .i64 0] 47) = W1 at *
      refine (NX _ S0.out.rd).mono ?_
      rintro e w1 ⟨rfl, hf⟩
      have S1 := ((S0.out.still hf).alloc #[.int .i64 t.kind, .int .i64 t.at_, .int .i64 t.en, .string (mk t.text), .int .i64 t.n] 72).alloc #[.int .i64 0, .int .i64 0, .string ⟨#[]⟩, .slice none 0 0, .int .i64 t.at_] 24
      rw [size_alloc] at S1
      have S1 := Lib.hid S1
      have hz1 := ((S0.out.still hf).var 0 rfl).1.lt
      clear hf S0
      go_wp2_with fail
      generalize (w1.alloc (.cells #[.int .i64 t.kind, .int .i64 t.at_, .int .i64 t.en, .string (mk t.text), .int .i64 t.n] 72)).alloc (.cells #[.int .i64 0, .int .i64 0, .string ⟨#[]⟩, .slice none 0 0, .int .i64 t.at_] 24) = W2 at *
      refine (IS ⟨#[45]⟩ _).mono ?_
      rintro e w2 ⟨rfl, hf⟩
      rw [show bs ⟨#[45]⟩ = [45] from rfl, h45]
      have S2 := Lib.hid (S1.out.still hf)
      clear hf S1
      obtain ⟨e0, e1, e2, e3, e4⟩ := cells5 (S2.out.var 0 rfl).1
      obtain ⟨ef0, ef1, ef2, ef3, ef4⟩ := free5 (S2.out.var 0 rfl).1
      have SK := Lib.hid (S2.out.set 0 rfl 0 (.int .i64 5))
      clear S2
      go_wp2_with fail
      generalize w2.setCell ⟨w1.heap.size + 1, 0, none⟩ (.int .i64 5) = W4 at *
      refine (EN _ SK.out.rd).mono ?_
      rintro e w5 ⟨⟨rfl, hr⟩, hf⟩
      have hz5 := ((SK.out.step hr hf).var 0 rfl).1.lt
      have S6 := Lib.hid ((SK.out.step hr hf).alloc #[.int .i64 14, .int .i64 t.at_] 47)
      clear hf hr SK
      go_wp2_with fail
      generalize w5.alloc (.cells #[.int .i64 14, .int .i64 t.at_] 47) = W6 at *
      obtain ⟨f0, f1⟩ := cells2 (S6.out.var 0 rfl).1
      have ff0 := (S6.out.var 0 rfl).1.free 0
      have ff1 := (S6.out.var 0 rfl).1.free 1
      obtain ⟨g0, g1⟩ := cells2 (S6.out.var 3 rfl).1
      have gf0 := (S6.out.var 3 rfl).1.free 0
      have gf1 := (S6.out.var 3 rfl).1.free 1
      obtain ⟨x0, x1, x2, x3, x4⟩ := cells5 (S6.out.var 4 rfl).1
      obtain ⟨xf0, xf1, xf2, xf3, xf4⟩ := free5 (S6.out.var 4 rfl).1
      have SZ := Lib.hid (((S6.out.set5 4 rfl (.int .i64 0) (.int .i64 0) (.string ⟨#[]⟩) (.slice none 0 0) (.int .i64 0)).set2 3 rfl (.int .i64 14) (.int .i64 t.at_)).drew)
      clear S6
      go_region
      go_wp2_with fail
      refine bodyPost_ret (v := .tuple #[.agg #[.int .i64 0, .int .i64 0, .string ⟨#[]⟩, .slice none 0 0, .int .i64 0], .agg #[.int .i64 14, .int .i64 t.at_]]) (by simp [results, Tryd.results51, go_sem, *]) rfl ⟨⟨_, _, o, rfl, ⟨_, _, _, _, _, _, _, rfl⟩, by omega, by omega, hi, SZ.out.rd⟩, SZ.out.foot⟩
    · have HIk := HI.out (isS_kind h45) h12
      simp only [if_neg h12] at EN ⊢
      clear HI
      cases hq : prs F .un (ts.drop (i + 1)) (o + 1) with
      | error z =>
        obtain ⟨cc, pp⟩ := z
        unfold thenP
        dsimp only
        go_enter Tryd.func51, Tryd.ntmps51
        go_wp2_with fail
        generalize (w.alloc (.cells #[.int .i64 0, .int .i64 0, .string ⟨#[]⟩, .slice none 0 0, .int .i64 0] 24)).alloc (.cells #[.int .i64 0, .int .i64 0] 47) = W1 at *
        refine (NX _ S0.out.rd).mono ?_
        rintro e w1 ⟨rfl, hf⟩
        have S1 := ((S0.out.still hf).alloc #[.int .i64 t.kind, .int .i64 t.at_, .int .i64 t.en, .string (mk t.text), .int .i64 t.n] 72).alloc #[.int .i64 0, .int .i64 0, .string ⟨#[]⟩, .slice none 0 0, .int .i64 t.at_] 24
        rw [size_alloc] at S1
        have S1 := Lib.hid S1
        have hz1 := ((S0.out.still hf).var 0 rfl).1.lt
        clear hf S0
        go_wp2_with fail
        generalize (w1.alloc (.cells #[.int .i64 t.kind, .int .i64 t.at_, .int .i64 t.en, .string (mk t.text), .int .i64 t.n] 72)).alloc (.cells #[.int .i64 0, .int .i64 0, .string ⟨#[]⟩, .slice none 0 0, .int .i64 t.at_] 24) = W2 at *
        refine (IS ⟨#[45]⟩ _).mono ?_
        rintro e w2 ⟨rfl, hf⟩
        rw [show bs ⟨#[45]⟩ = [45] from rfl, h45]
        have S2 := Lib.hid (S1.out.still hf)
        clear hf S1
        obtain ⟨e0, e1, e2, e3, e4⟩ := cells5 (S2.out.var 0 rfl).1
        obtain ⟨ef0, ef1, ef2, ef3, ef4⟩ := free5 (S2.out.var 0 rfl).1
        have SK := Lib.hid (S2.out.set 0 rfl 0 (.int .i64 5))
        clear S2
        go_wp2_with fail
        generalize w2.setCell ⟨w1.heap.size + 1, 0, none⟩ (.int .i64 5) = W4 at *
        refine (EN _ SK.out.rd).mono ?_
        rintro e w5 ⟨⟨rfl, hr⟩, hf⟩
        have hz5 := ((SK.out.step hr hf).var 0 rfl).1.lt
        have S6 := Lib.hid ((SK.out.step hr hf).alloc #[.int .i64 0, .int .i64 0] 47)
        clear hf hr SK
        have hsz6 := size_alloc w5 (.cells #[.int .i64 0, .int .i64 0] 47)
        go_wp2_with fail
        generalize w5.alloc (.cells #[.int .i64 0, .int .i64 0] 47) = W6 at *
        refine (HIk _ S6.out.rd).mono ?_
        rintro e w7 ⟨hp, hf⟩
        rw [hq] at hp
        obtain ⟨u, j, o', rfl, ⟨k1, n1, s1, a1, m1, c1, p1, rfl⟩, hcc, hoo, hj, hr⟩ := hp
        obtain ⟨q, rfl⟩ : ∃ q, o' = q + 1 := ⟨o' - 1, by omega⟩
        have S7 := Lib.hid (S6.out.step hr hf)
        have hz7 := (S7.out.var 0 rfl).1.lt
        clear hf hr S6
        obtain ⟨f0, f1⟩ := cells2 (S7.out.var 0 rfl).1
        have ff0 := (S7.out.var 0 rfl).1.free 0
        have ff1 := (S7.out.var 0 rfl).1.free 1
        have S8 := (S7.out.set2 0 rfl (.int .i64 cc) (.int .i64 pp)).alloc #[.int .i64 k1, .int .i64 n1, .string s1, .slice a1 m1 c1, .int .i64 p1] 24
        rw [size_set, size_set] at S8
        have S8 := Lib.hid S8
        clear S7
        go_upto_region 12 with fail
        generalize ((w7.setCell ⟨w5.heap.size, 0, none⟩ (.int .i64 cc)).setCell ⟨w5.heap.size, 1, none⟩ (.int .i64 pp)).alloc (.cells #[.int .i64 k1, .int .i64 n1, .string s1, .slice a1 m1 c1, .int .i64 p1] 24) = W8 at *
        obtain ⟨r0, r1, r2⟩ := cells3 S8.out.rd.rd
        have r3 := S8.out.rd.rd.free 2
        have r2 : W8.cell? ⟨R, 2, none⟩ = some (.int .i64 ((q : Int) + 1)) := r2
        have hw2 : IntKind.i64.wrap ((q : Int) + 1 - 1) = q := by rw [IntKind.wrap_i64]; omega
        have S9 := Lib.hid S8.out.decO
        clear S8
        go_upto_region 13 with fail
        generalize W8.setCell ⟨R, 2, none⟩ (.int .i64 q) = W9 at *
        obtain ⟨y0, y1, y2, y3, y4⟩ := cells5 (S9.out.var 0 rfl).1
        obtain ⟨yf0, yf1, yf2, yf3, yf4⟩ := free5 (S9.out.var 0 rfl).1
        have hz9 := (S9.out.var 0 rfl).1.lt
        have hz10 : w1.heap.size + 1 < W9.heap.size := by omega
        have S10 := (S9.out.set 2 rfl 3 (.slice (some ⟨W9.heap.size, 0, none⟩) 1 1)).alloc #[.int .i64 k1, .int .i64 n1, .string s1, .slice a1 m1 c1, .int .i64 p1] 24
        rw [size_set] at S10
        have S10 := Lib.hid S10
        obtain ⟨e0, e1, e2, e3, e4⟩ := cells5 (S9.out.var 2 rfl).1
        obtain ⟨ef0, ef1, ef2, ef3, ef4⟩ := free5 (S9.out.var 2 rfl).1
        clear S9
        go_upto_region 14 with (refine wpList_slice1 rfl (.tmp 44) elem_Ex (by decide) (by decide) rfl [.int .i64 k1, .int .i64 n1, .string s1, .slice a1 m1 c1, .int .i64 p1] rfl rfl ?_)
        generalize (W9.setCell ⟨w1.heap.size + 1, 3, none⟩ (.slice (some ⟨W9.heap.size, 0, none⟩) 1 1)).alloc (.cells #[.int .i64 k1, .int .i64 n1, .string s1, .slice a1 m1 c1, .int .i64 p1] 24) = WA at *
        clear y0 y1 y2 y3 y4 yf0 yf1 yf2 yf3 yf4 e0 e1 e2 e3 e4 ef0 ef1 ef2 ef3 ef4
        obtain ⟨f0, f1⟩ := cells2 (S10.out.var 2 rfl).1
        have ff0 := (S10.out.var 2 rfl).1.free 0
        have ff1 := (S10.out.var 2 rfl).1.free 1
        obtain ⟨e0, e1, e2, e3, e4⟩ := cells5 (S10.out.var 3 rfl).1
        obtain ⟨ef0, ef1, ef2, ef3, ef4⟩ := free5 (S10.out.var 3 rfl).1
        obtain ⟨g0, g1⟩ := cells2 (S10.out.var 5 rfl).1
        have gf0 := (S10.out.var 5 rfl).1.free 0
        have gf1 := (S10.out.var 5 rfl).1.free 1
        obtain ⟨x0, x1, x2, x3, x4⟩ := cells5 (S10.out.var 6 rfl).1
        obtain ⟨xf0, xf1, xf2, xf3, xf4⟩ := free5 (S10.out.var 6 rfl).1
        have SZ := Lib.hid (((S10.out.set5 6 rfl (.int .i64 5) (.int .i64 0) (.string ⟨#[]⟩) (.slice (some ⟨W9.heap.size, 0, none⟩) 1 1) (.int .i64 t.at_)).set2 5 rfl (.int .i64 cc) (.int .i64 pp)).drew)
        clear S10
        go_region
        go_wp2_with fail
        refine bodyPost_ret (v := .tuple #[.agg #[.int .i64 5, .int .i64 0, .string ⟨#[]⟩, .slice (some ⟨W9.heap.size, 0, none⟩) 1 1, .int .i64 t.at_], .agg #[.int .i64 cc, .int .i64 pp]]) (by simp [results, Tryd.results51, go_sem, *]) rfl ⟨⟨_, j, q, rfl, ⟨_, _, _, _, _, _, _, rfl⟩, hcc, by omega, hj, SZ.out.rd⟩, SZ.out.foot⟩
      | ok z =>
        obtain ⟨x, l⟩ := z
        unfold thenP
        dsimp only
        go_enter Tryd.func51, Tryd.ntmps51
        go_wp2_with fail
        generalize (w.alloc (.cells #[.int .i64 0, .int .i64 0, .string ⟨#[]⟩, .slice none 0 0, .int .i64 0] 24)).alloc (.cells #[.int .i64 0, .int .i64 0] 47) = W1 at *
        refine (NX _ S0.out.rd).mono ?_
        rintro e w1 ⟨rfl, hf⟩
        have S1 := ((S0.out.still hf).alloc #[.int .i64 t.kind, .int .i64 t.at_, .int .i64 t.en, .string (mk t.text), .int .i64 t.n] 72).alloc #[.int .i64 0, .int .i64 0, .string ⟨#[]⟩, .slice none 0 0, .int .i64 t.at_] 24
        rw [size_alloc] at S1
        have S1 := Lib.hid S1
        have hz1 := ((S0.out.still hf).var 0 rfl).1.lt
        clear hf S0
        go_wp2_with fail
        generalize (w1.alloc (.cells #[.int .i64 t.kind, .int .i64 t.at_, .int .i64 t.en, .string (mk t.text), .int .i64 t.n] 72)).alloc (.cells #[.int .i64 0, .int .i64 0, .string ⟨#[]⟩, .slice none 0 0, .int .i64 t.at_] 24) = W2 at *
        refine (IS ⟨#[45]⟩ _).mono ?_
        rintro e w2 ⟨rfl, hf⟩
        rw [show bs ⟨#[45]⟩ = [45] from rfl, h45]
        have S2 := Lib.hid (S1.out.still hf)
        clear hf S1
        obtain ⟨e0, e1, e2, e3, e4⟩ := cells5 (S2.out.var 0 rfl).1
        obtain ⟨ef0, ef1, ef2, ef3, ef4⟩ := free5 (S2.out.var 0 rfl).1
        have SK := Lib.hid (S2.out.set 0 rfl 0 (.int .i64 5))
        clear S2
        go_wp2_with fail
        generalize w2.setCell ⟨w1.heap.size + 1, 0, none⟩ (.int .i64 5) = W4 at *
        refine (EN _ SK.out.rd).mono ?_
        rintro e w5 ⟨⟨rfl, hr⟩, hf⟩
        have hz5 := ((SK.out.step hr hf).var 0 rfl).1.lt
        have S6 := Lib.hid ((SK.out.step hr hf).alloc #[.int .i64 0, .int .i64 0] 47)
        clear hf hr SK
        have hsz6 := size_alloc w5 (.cells #[.int .i64 0, .int .i64 0] 47)
        go_wp2_with fail
        generalize w5.alloc (.cells #[.int .i64 0, .int .i64 0] 47) = W6 at *
        refine (HIk _ S6.out.rd).mono ?_
        rintro e w7 ⟨hp, hf⟩
        rw [hq] at hp
        obtain ⟨u, j, rfl, hTr, hl, hj, hr⟩ := hp
        obtain ⟨k1, n1, s1, a1, m1, c1, p1, rfl⟩ := hTr.five
        rw [hsz6] at hTr
        have S7 := Lib.hid (S6.out.step hr hf)
        have hz7 := (S7.out.var 0 rfl).1.lt
        clear hf hr S6
        obtain ⟨f0, f1⟩ := cells2 (S7.out.var 0 rfl).1
        have ff0 := (S7.out.var 0 rfl).1.free 0
        have ff1 := (S7.out.var 0 rfl).1.free 1
        have S8 := (S7.out.set2 0 rfl (.int .i64 0) (.int .i64 0)).alloc #[.int .i64 k1, .int .i64 n1, .string s1, .slice a1 m1 c1, .int .i64 p1] 24
        rw [size_set, size_set] at S8
        have HT := Lib.hid (keepL hTr ((foot2' (Foot.refl (fun k => k < w5.heap.size + 1) w7) (show w5.heap.size < w5.heap.size + 1 by omega) (.int .i64 0) (.int .i64 0)).alloc (.cells #[.int .i64 k1, .int .i64 n1, .string s1, .slice a1 m1 c1, .int .i64 p1] 24)))
        clear hTr
        have S8 := Lib.hid S8
        clear S7
        go_upto_region 12 with fail
        generalize ((w7.setCell ⟨w5.heap.size, 0, none⟩ (.int .i64 0)).setCell ⟨w5.heap.size, 1, none⟩ (.int .i64 0)).alloc (.cells #[.int .i64 k1, .int .i64 n1, .string s1, .slice a1 m1 c1, .int .i64 p1] 24) = W8 at *
        obtain ⟨r0, r1, r2⟩ := cells3 S8.out.rd.rd
        have r3 := S8.out.rd.rd.free 2
        have r2 : W8.cell? ⟨R, 2, none⟩ = some (.int .i64 ((o : Int) + 1)) := r2
        have hw2 : IntKind.i64.wrap ((o : Int) + 1 - 1) = o := by rw [IntKind.wrap_i64]; omega
        have S9 := Lib.hid S8.out.decO
        have HT2 := Lib.hid (keepL HT.out ((Foot.refl (fun k => k < w5.heap.size + 1) W8).setCell (p := ⟨R, 2, none⟩) (fun _ => by simp only; omega) (.int .i64 (o : Int))))
        clear HT
        clear S8
        go_upto_region 13 with fail
        generalize W8.setCell ⟨R, 2, none⟩ (.int .i64 o) = W9 at *
        have hnew := HT2.out.weak (P' := fun k => w5.heap.size + 1 ≤ k ∧ k < W9.heap.size) (fun k hk h => ⟨h, hk⟩)
        obtain ⟨y0, y1, y2, y3, y4⟩ := cells5 (S9.out.var 0 rfl).1
        obtain ⟨yf0, yf1, yf2, yf3, yf4⟩ := free5 (S9.out.var 0 rfl).1
        have hz9 := (S9.out.var 0 rfl).1.lt
        have hz10 : w1.heap.size + 1 < W9.heap.size := by omega
        have S10 := (S9.out.set 2 rfl 3 (.slice (some ⟨W9.heap.size, 0, none⟩) 1 1)).alloc #[.int .i64 k1, .int .i64 n1, .string s1, .slice a1 m1 c1, .int .i64 p1] 24
        rw [size_set] at S10
        have HT3 := Lib.hid (Tr.one (k := 5) (n := 0) (s := []) (p := t.at_) (P := fun k => w.heap.size + 2 ≤ k) (S10.var 0 rfl).1 (by omega) ((hnew.keep (((Foot.refl (fun k => k = w1.heap.size + 1) W9).setCell (p := ⟨w1.heap.size + 1, 3, none⟩) (fun _ => rfl) (.slice (some ⟨W9.heap.size, 0, none⟩) 1 1)).alloc (.cells #[.int .i64 k1, .int .i64 n1, .string s1, .slice a1 m1 c1, .int .i64 p1] 24)) (fun k hk hb => by omega)).weak (fun k _ hk => by omega)))
        clear hnew HT2
        have S10 := Lib.hid S10
        obtain ⟨e0, e1, e2, e3, e4⟩ := cells5 (S9.out.var 2 rfl).1
        obtain ⟨ef0, ef1, ef2, ef3, ef4⟩ := free5 (S9.out.var 2 rfl).1
        clear S9
        go_upto_region 14 with (refine wpList_slice1 rfl (.tmp 44) elem_Ex (by decide) (by decide) rfl [.int .i64 k1, .int .i64 n1, .string s1, .slice a1 m1 c1, .int .i64 p1] rfl rfl ?_)
        generalize (W9.setCell ⟨w1.heap.size + 1, 3, none⟩ (.slice (some ⟨W9.heap.size, 0, none⟩) 1 1)).alloc (.cells #[.int .i64 k1, .int .i64 n1, .string s1, .slice a1 m1 c1, .int .i64 p1] 24) = WA at *
        clear y0 y1 y2 y3 y4 yf0 yf1 yf2 yf3 yf4 e0 e1 e2 e3 e4 ef0 ef1 ef2 ef3 ef4
        obtain ⟨f0, f1⟩ := cells2 (S10.out.var 2 rfl).1
        have ff0 := (S10.out.var 2 rfl).1.free 0
        have ff1 := (S10.out.var 2 rfl).1.free 1
        obtain ⟨e0, e1, e2, e3, e4⟩ := cells5 (S10.out.var 3 rfl).1
        obtain ⟨ef0, ef1, ef2, ef3, ef4⟩ := free5 (S10.out.var 3 rfl).1
        obtain ⟨g0, g1⟩ := cells2 (S10.out.var 5 rfl).1
        have gf0 := (S10.out.var 5 rfl).1.free 0
        have gf1 := (S10.out.var 5 rfl).1.free 1
        obtain ⟨x0, x1, x2, x3, x4⟩ := cells5 (S10.out.var 6 rfl).1
        obtain ⟨xf0, xf1, xf2, xf3, xf4⟩ := free5 (S10.out.var 6 rfl).1
        have SZ := Lib.hid (((S10.out.set5 6 rfl (.int .i64 5) (.int .i64 0) (.string ⟨#[]⟩) (.slice (some ⟨W9.heap.size, 0, none⟩) 1 1) (.int .i64 t.at_)).set2 5 rfl (.int .i64 0) (.int .i64 0)).drew)
        have HT4 := Lib.hid ((HT3.out.keep (foot2' (foot5' (Foot.refl (fun k => k < w.heap.size + 2) WA) (show w.heap.size < w.heap.size + 2 by omega) (.int .i64 5) (.int .i64 0) (.string ⟨#[]⟩) (.slice (some ⟨W9.heap.size, 0, none⟩) 1 1) (.int .i64 t.at_)) (show w.heap.size + 1 < w.heap.size + 2 by omega) (.int .i64 0) (.int .i64 0)).drew (fun k hk hb => by omega)).weak (P' := fun k => w.heap.size ≤ k) (fun k _ hk => by omega))
        clear S10
        go_region
        go_wp2_with fail
        refine bodyPost_ret (v := .tuple #[.agg #[.int .i64 5, .int .i64 0, .string ⟨#[]⟩, .slice (some ⟨W9.heap.size, 0, none⟩) 1 1, .int .i64 t.at_], .agg #[.int .i64 0, .int .i64 0]]) (by simp [results, Tryd.results51, go_sem, *]) rfl ⟨⟨_, j, rfl, HT4.out, hl, hj, SZ.out.rd⟩, SZ.out.foot⟩
  | false =>
    simp only [Bool.false_eq_true, if_false]
    cases h33 : isS t [33] with
    | true =>
      simp only [if_true]
      by_cases h12 : o = 12
      · simp only [if_pos h12] at EN ⊢
        go_enter Tryd.func51, Tryd.ntmps51
        go_wp2_with fail
        generalize (w.alloc (.cells #[.int .i64 0, .int .i64 0, .string ⟨#[]⟩, .slice none 0 0, .int .i64 0] 24)).alloc (.cells #[.int .i64 0, .int .i64 0] 47) = W1 at *
        refine (NX _ S0.out.rd).mono ?_
        rintro e w1 ⟨rfl, hf⟩
        have S1 := ((S0.out.still hf).alloc #[.int .i64 t.kind, .int .i64 t.at_, .int .i64 t.en, .string (mk t.text), .int .i64 t.n] 72).alloc #[.int .i64 0, .int .i64 0, .string ⟨#[]⟩, .slice none 0 0, .int .i64 t.at_] 24
        rw [size_alloc] at S1
        have S1 := Lib.hid S1
        have hz1 := ((S0.out.still hf).var 0 rfl).1.lt
        clear hf S0
        go_wp2_with fail
        generalize (w1.alloc (.cells #[.int .i64 t.kind, .int .i64 t.at_, .int .i64 t.en, .string (mk t.text), .int .i64 t.n] 72)).alloc (.cells #[.int .i64 0, .int .i64 0, .string ⟨#[]⟩, .slice none 0 0, .int .i64 t.at_] 24) = W2 at *
        refine (IS ⟨#[45]⟩ _).mono ?_
        rintro e w2 ⟨rfl, hf⟩
        rw [show bs ⟨#[45]⟩ = [45] from rfl, h45]
        have S2 := Lib.hid (S1.out.still hf)
        clear hf S1
        obtain ⟨t0, t1, t2, t3, t4⟩ := cells5 (S2.out.var 1 rfl).1
        go_wp2_with fail
        refine (IS ⟨#[33]⟩ _).mono ?_
        rintro e w3 ⟨rfl, hf⟩
        rw [show bs ⟨#[33]⟩ = [33] from rfl, h33]
        have S3 := Lib.hid (S2.out.still hf)
        clear hf S2 t0 t1 t2 t3 t4
        obtain ⟨e0, e1, e2, e3, e4⟩ := cells5 (S3.out.var 0 rfl).1
        obtain ⟨ef0, ef1, ef2, ef3, ef4⟩ := free5 (S3.out.var 0 rfl).1
        have SK := Lib.hid (S3.out.set 0 rfl 0 (.int .i64 6))
        clear S3
        go_wp2_with fail
        generalize w3.setCell ⟨w1.heap.size + 1, 0, none⟩ (.int .i64 6) = W4 at *
        refine (EN _ SK.out.rd).mono ?_
        rintro e w5 ⟨⟨rfl, hr⟩, hf⟩
        have hz5 := ((SK.out.step hr hf).var 0 rfl).1.lt
        have S6 := Lib.hid ((SK.out.step hr hf).alloc #[.int .i64 14, .int .i64 t.at_] 47)
        clear hf hr SK
        go_wp2_with fail
        generalize w5.alloc (.cells #[.int .i64 14, .int .i64 t.at_] 47) = W6 at *
        obtain ⟨f0, f1⟩ := cells2 (S6.out.var 0 rfl).1
        have ff0 := (S6.out.var 0 rfl).1.free 0
        have ff1 := (S6.out.var 0 rfl).1.free 1
        obtain ⟨g0, g1⟩ := cells2 (S6.out.var 3 rfl).1
        have gf0 := (S6.out.var 3 rfl).1.free 0
        have gf1 := (S6.out.var 3 rfl).1.free 1
        obtain ⟨x0, x1, x2, x3, x4⟩ := cells5 (S6.out.var 4 rfl).1
        obtain ⟨xf0, xf1, xf2, xf3, xf4⟩ := free5 (S6.out.var 4 rfl).1
        have SZ := Lib.hid (((S6.out.set5 4 rfl (.int .i64 0) (.int .i64 0) (.string ⟨#[]⟩) (.slice none 0 0) (.int .i64 0)).set2 3 rfl (.int .i64 14) (.int .i64 t.at_)).drew)
        clear S6
        go_region
        go_wp2_with fail
        refine bodyPost_ret (v := .tuple #[.agg #[.int .i64 0, .int .i64 0, .string ⟨#[]⟩, .slice none 0 0, .int .i64 0], .agg #[.int .i64 14, .int .i64 t.at_]]) (by simp [results, Tryd.results51, go_sem, *]) rfl ⟨⟨_, _, o, rfl, ⟨_, _, _, _, _, _, _, rfl⟩, by omega, by omega, hi, SZ.out.rd⟩, SZ.out.foot⟩
      · have HIk := HI.out (isS_kind h33) h12
        simp only [if_neg h12] at EN ⊢
        clear HI
        cases hq : prs F .un (ts.drop (i + 1)) (o + 1) with
        | error z =>
          obtain ⟨cc, pp⟩ := z
          unfold thenP
          dsimp only
          go_enter Tryd.func51, Tryd.ntmps51
          go_wp2_with fail
          generalize (w.alloc (.cells #[.int .i64 0, .int .i64 0, .string ⟨#[]⟩, .slice none 0 0, .int .i64 0] 24)).alloc (.cells #[.int .i64 0, .int .i64 0] 47) = W1 at *
          refine (NX _ S0.out.rd).mono ?_
          rintro e w1 ⟨rfl, hf⟩
          have S1 := ((S0.out.still hf).alloc #[.int .i64 t.kind, .int .i64 t.at_, .int .i64 t.en, .string (mk t.text), .int .i64 t.n] 72).alloc #[.int .i64 0, .int .i64 0, .string ⟨#[]⟩, .slice none 0 0, .int .i64 t.at_] 24
          rw [size_alloc] at S1
          have S1 := Lib.hid S1
          have hz1 := ((S0.out.still hf).var 0 rfl).1.lt
          clear hf S0
          go_wp2_with fail
          generalize (w1.alloc (.cells #[.int .i64 t.kind, .int .i64 t.at_, .int .i64 t.en, .string (mk t.text), .int .i64 t.n] 72)).alloc (.cells #[.int .i64 0, .int .i64 0, .string ⟨#[]⟩, .slice none 0 0, .int .i64 t.at_] 24) = W2 at *
          refine (IS ⟨#[45]⟩ _).mono ?_
          rintro e w2 ⟨rfl, hf⟩
          rw [show bs ⟨#[45]⟩ = [45] from rfl, h45]
          have S2 := Lib.hid (S1.out.still hf)
          clear hf S1
          obtain ⟨t0, t1, t2, t3, t4⟩ := cells5 (S2.out.var 1 rfl).1
          go_wp2_with fail
          refine (IS ⟨#[33]⟩ _).mono ?_
          rintro e w3 ⟨rfl, hf⟩
          rw [show bs ⟨#[33]⟩ = [33] from rfl, h33]
          have S3 := Lib.hid (S2.out.still hf)
          clear hf S2 t0 t1 t2 t3 t4
          obtain ⟨e0, e1, e2, e3, e4⟩ := cells5 (S3.out.var 0 rfl).1
          obtain ⟨ef0, ef1, ef2, ef3, ef4⟩ := free5 (S3.out.var 0 rfl).1
          have SK := Lib.hid (S3.out.set 0 rfl 0 (.int .i64 6))
          clear S3
          go_wp2_with fail
          generalize w3.setCell ⟨w1.heap.size + 1, 0, none⟩ (.int .i64 6) = W4 at *
          refine (EN _ SK.out.rd).mono ?_
          rintro e w5 ⟨⟨rfl, hr⟩, hf⟩
          have hz5 := ((SK.out.step hr hf).var 0 rfl).1.lt
          have S6 := Lib.hid ((SK.out.step hr hf).alloc #[.int .i64 0, .int .i64 0] 47)
          clear hf hr SK
          have hsz6 := size_alloc w5 (.cells #[.int .i64 0, .int .i64 0] 47)
          go_wp2_with fail
          generalize w5.alloc (.cells #[.int .i64 0, .int .i64 0] 47) = W6 at *
          refine (HIk _ S6.out.rd).mono ?_
          rintro e w7 ⟨hp, hf⟩
          rw [hq] at hp
          obtain ⟨u, j, o', rfl, ⟨k1, n1, s1, a1, m1, c1, p1, rfl⟩, hcc, hoo, hj, hr⟩ := hp
          obtain ⟨q, rfl⟩ : ∃ q, o' = q + 1 := ⟨o' - 1, by omega⟩
          have S7 := Lib.hid (S6.out.step hr hf)
          have hz7 := (S7.out.var 0 rfl).1.lt
          clear hf hr S6
          obtain ⟨f0, f1⟩ := cells2 (S7.out.var 0 rfl).1
          have ff0 := (S7.out.var 0 rfl).1.free 0
          have ff1 := (S7.out.var 0 rfl).1.free 1
          have S8 := (S7.out.set2 0 rfl (.int .i64 cc) (.int .i64 pp)).alloc #[.int .i64 k1, .int .i64 n1, .string s1, .slice a1 m1 c1, .int .i64 p1] 24
          rw [size_set, size_set] at S8
          have S8 := Lib.hid S8
          clear S7
          go_upto_region 12 with fail
          generalize ((w7.setCell ⟨w5.heap.size, 0, none⟩ (.int .i64 cc)).setCell ⟨w5.heap.size, 1, none⟩ (.int .i64 pp)).alloc (.cells #[.int .i64 k1, .int .i64 n1, .string s1, .slice a1 m1 c1, .int .i64 p1] 24) = W8 at *
          obtain ⟨r0, r1, r2⟩ := cells3 S8.out.rd.rd
          have r3 := S8.out.rd.rd.free 2
          have r2 : W8.cell? ⟨R, 2, none⟩ = some (.int .i64 ((q : Int) + 1)) := r2
          have hw2 : IntKind.i64.wrap ((q : Int) + 1 - 1) = q := by rw [IntKind.wrap_i64]; omega
          have S9 := Lib.hid S8.out.decO
          clear S8
          go_upto_region 13 with fail
          generalize W8.setCell ⟨R, 2, none⟩ (.int .i64 q) = W9 at *
          obtain ⟨y0, y1, y2, y3, y4⟩ := cells5 (S9.out.var 0 rfl).1
          obtain ⟨yf0, yf1, yf2, yf3, yf4⟩ := free5 (S9.out.var 0 rfl).1
          have hz9 := (S9.out.var 0 rfl).1.lt
          have hz10 : w1.heap.size + 1 < W9.heap.size := by omega
          have S10 := (S9.out.set 2 rfl 3 (.slice (some ⟨W9.heap.size, 0, none⟩) 1 1)).alloc #[.int .i64 k1, .int .i64 n1, .string s1, .slice a1 m1 c1, .int .i64 p1] 24
          rw [size_set] at S10
          have S10 := Lib.hid S10
          obtain ⟨e0, e1, e2, e3, e4⟩ := cells5 (S9.out.var 2 rfl).1
          obtain ⟨ef0, ef1, ef2, ef3, ef4⟩ := free5 (S9.out.var 2 rfl).1
          clear S9
          go_upto_region 14 with (refine wpList_slice1 rfl (.tmp 44) elem_Ex (by decide) (by decide) rfl [.int .i64 k1, .int .i64 n1, .string s1, .slice a1 m1 c1, .int .i64 p1] rfl rfl ?_)
          generalize (W9.setCell ⟨w1.heap.size + 1, 3, none⟩ (.slice (some ⟨W9.heap.size, 0, none⟩) 1 1)).alloc (.cells #[.int .i64 k1, .int .i64 n1, .string s1, .slice a1 m1 c1, .int .i64 p1] 24) = WA at *
          clear y0 y1 y2 y3 y4 yf0 yf1 yf2 yf3 yf4 e0 e1 e2 e3 e4 ef0 ef1 ef2 ef3 ef4
          obtain ⟨f0, f1⟩ := cells2 (S10.out.var 2 rfl).1
          have ff0 := (S10.out.var 2 rfl).1.free 0
          have ff1 := (S10.out.var 2 rfl).1.free 1
          obtain ⟨e0, e1, e2, e3, e4⟩ := cells5 (S10.out.var 3 rfl).1
          obtain ⟨ef0, ef1, ef2, ef3, ef4⟩ := free5 (S10.out.var 3 rfl).1
          obtain ⟨g0, g1⟩ := cells2 (S10.out.var 5 rfl).1
          have gf0 := (S10.out.var 5 rfl).1.free 0
          have gf1 := (S10.out.var 5 rfl).1.free 1
          obtain ⟨x0, x1, x2, x3, x4⟩ := cells5 (S10.out.var 6 rfl).1
          obtain ⟨xf0, xf1, xf2, xf3, xf4⟩ := free5 (S10.out.var 6 rfl).1
          have SZ := Lib.hid (((S10.out.set5 6 rfl (.int .i64 6) (.int .i64 0) (.string ⟨#[]⟩) (.slice (some ⟨W9.heap.size, 0, none⟩) 1 1) (.int .i64 t.at_)).set2 5 rfl (.int .i64 cc) (.int .i64 pp)).drew)
          clear S10
          go_region
          go_wp2_with fail
          refine bodyPost_ret (v := .tuple #[.agg #[.int .i64 6, .int .i64 0, .string ⟨#[]⟩, .slice (some ⟨W9.heap.size, 0, none⟩) 1 1, .int .i64 t.at_], .agg #[.int .i64 cc, .int .i64 pp]]) (by simp [results, Tryd.results51, go_sem, *]) rfl ⟨⟨_, j, q, rfl, ⟨_, _, _, _, _, _, _, rfl⟩, hcc, by omega, hj, SZ.out.rd⟩, SZ.out.foot⟩
        | ok z =>
          obtain ⟨x, l⟩ := z
          unfold thenP
          dsimp only
          go_enter Tryd.func51, Tryd.ntmps51
          go_wp2_with fail
          generalize (w.alloc (.cells #[.int .i64 0, .int .i64 0, .string ⟨#[]⟩, .slice none 0 0, .int .i64 0] 24)).alloc (.cells #[.int .i64 0, .int .i64 0] 47) = W1 at *
          refine (NX _ S0.out.rd).mono ?_
          rintro e w1 ⟨rfl, hf⟩
          have S1 := ((S0.out.still hf).alloc #[.int .i64 t.kind, .int .i64 t.at_, .int .i64 t.en, .string (mk t.text), .int .i64 t.n] 72).alloc #[.int .i64 0, .int .i64 0, .string ⟨#[]⟩, .slice none 0 0, .int .i64 t.at_] 24
          rw [size_alloc] at S1
          have S1 := Lib.hid S1
          have hz1 := ((S0.out.still hf).var 0 rfl).1.lt
          clear hf S0
          go_wp2_with fail
          generalize (w1.alloc (.cells #[.int .i64 t.kind, .int .i64 t.at_, .int .i64 t.en, .string (mk t.text), .int .i64 t.n] 72)).alloc (.cells #[.int .i64 0, .int .i64 0, .string ⟨#[]⟩, .slice none 0 0, .int .i64 t.at_] 24) = W2 at *
          refine (IS ⟨#[45]⟩ _).mono ?_
          rintro e w2 ⟨rfl, hf⟩
          rw [show bs ⟨#[45]⟩ = [45] from rfl, h45]
          have S2 := Lib.hid (S1.out.still hf)
          clear hf S1
          obtain ⟨t0, t1, t2, t3, t4⟩ := cells5 (S2.out.var 1 rfl).1
          go_wp2_with fail
          refine (IS ⟨#[33]⟩ _).mono ?_
          rintro e w3 ⟨rfl, hf⟩
          rw [show bs ⟨#[33]⟩ = [33] from rfl, h33]
          have S3 := Lib.hid (S2.out.still hf)
          clear hf S2 t0 t1 t2 t3 t4
          obtain ⟨e0, e1, e2, e3, e4⟩ := cells5 (S3.out.var 0 rfl).1
          obtain ⟨ef0, ef1, ef2, ef3, ef4⟩ := free5 (S3.out.var 0 rfl).1
          have SK := Lib.hid (S3.out.set 0 rfl 0 (.int .i64 6))
          clear S3
          go_wp2_with fail
          generalize w3.setCell ⟨w1.heap.size + 1, 0, none⟩ (.int .i64 6) = W4 at *
          refine (EN _ SK.out.rd).mono ?_
          rintro e w5 ⟨⟨rfl, hr⟩, hf⟩
          have hz5 := ((SK.out.step hr hf).var 0 rfl).1.lt
          have S6 := Lib.hid ((SK.out.step hr hf).alloc #[.int .i64 0, .int .i64 0] 47)
          clear hf hr SK
          have hsz6 := size_alloc w5 (.cells #[.int .i64 0, .int .i64 0] 47)
          go_wp2_with fail
          generalize w5.alloc (.cells #[.int .i64 0, .int .i64 0] 47) = W6 at *
          refine (HIk _ S6.out.rd).mono ?_
          rintro e w7 ⟨hp, hf⟩
          rw [hq] at hp
          obtain ⟨u, j, rfl, hTr, hl, hj, hr⟩ := hp
          obtain ⟨k1, n1, s1, a1, m1, c1, p1, rfl⟩ := hTr.five
          rw [hsz6] at hTr
          have S7 := Lib.hid (S6.out.step hr hf)
          have hz7 := (S7.out.var 0 rfl).1.lt
          clear hf hr S6
          obtain ⟨f0, f1⟩ := cells2 (S7.out.var 0 rfl).1
          have ff0 := (S7.out.var 0 rfl).1.free 0
          have ff1 := (S7.out.var 0 rfl).1.free 1
          have S8 := (S7.out.set2 0 rfl (.int .i64 0) (.int .i64 0)).alloc #[.int .i64 k1, .int .i64 n1, .string s1, .slice a1 m1 c1, .int .i64 p1] 24
          rw [size_set, size_set] at S8
          have HT := Lib.hid (keepL hTr ((foot2' (Foot.refl (fun k => k < w5.heap.size + 1) w7) (show w5.heap.size < w5.heap.size + 1 by omega) (.int .i64 0) (.int .i64 0)).alloc (.cells #[.int .i64 k1, .int .i64 n1, .string s1, .slice a1 m1 c1, .int .i64 p1] 24)))
          clear hTr
          have S8 := Lib.hid S8
          clear S7
          go_upto_region 12 with fail
          generalize ((w7.setCell ⟨w5.heap.size, 0, none⟩ (.int .i64 0)).setCell ⟨w5.heap.size, 1, none⟩ (.int .i64 0)).alloc (.cells #[.int .i64 k1, .int .i64 n1, .string s1, .slice a1 m1 c1, .int .i64 p1] 24) = W8 at *
          obtain ⟨r0, r1, r2⟩ := cells3 S8.out.rd.rd
          have r3 := S8.out.rd.rd.free 2
          have r2 : W8.cell? ⟨R, 2, none⟩ = some (.int .i64 ((o : Int) + 1)) := r2
          have hw2 : IntKind.i64.wrap ((o : Int) + 1 - 1) = o := by rw [IntKind.wrap_i64]; omega
          have S9 := Lib.hid S8.out.decO
          have HT2 := Lib.hid (keepL HT.out ((Foot.refl (fun k => k < w5.heap.size + 1) W8).setCell (p := ⟨R, 2, none⟩) (fun _ => by simp only; omega) (.int .i64 (o : Int))))
          clear HT
          clear S8
          go_upto_region 13 with fail
          generalize W8.setCell ⟨R, 2, none⟩ (.int .i64 o) = W9 at *
          have hnew := HT2.out.weak (P' := fun k => w5.heap.size + 1 ≤ k ∧ k < W9.heap.size) (fun k hk h => ⟨h, hk⟩)
          obtain ⟨y0, y1, y2, y3, y4⟩ := cells5 (S9.out.var 0 rfl).1
          obtain ⟨yf0, yf1, yf2, yf3, yf4⟩ := free5 (S9.out.var 0 rfl).1
          have hz9 := (S9.out.var 0 rfl).1.lt
          have hz10 : w1.heap.size + 1 < W9.heap.size := by omega
          have S10 := (S9.out.set 2 rfl 3 (.slice (some ⟨W9.heap.size, 0, none⟩) 1 1)).alloc #[.int .i64 k1, .int .i64 n1, .string s1, .slice a1 m1 c1, .int .i64 p1] 24
          rw [size_set] at S10
          have HT3 := Lib.hid (Tr.one (k := 6) (n := 0) (s := []) (p := t.at_) (P := fun k => w.heap.size + 2 ≤ k) (S10.var 0 rfl).1 (by omega) ((hnew.keep (((Foot.refl (fun k => k = w1.heap.size + 1) W9).setCell (p := ⟨w1.heap.size + 1, 3, none⟩) (fun _ => rfl) (.slice (some ⟨W9.heap.size, 0, none⟩) 1 1)).alloc (.cells #[.int .i64 k1, .int .i64 n1, .string s1, .slice a1 m1 c1, .int .i64 p1] 24)) (fun k hk hb => by omega)).weak (fun k _ hk => by omega)))
          clear hnew HT2
          have S10 := Lib.hid S10
          obtain ⟨e0, e1, e2, e3, e4⟩ := cells5 (S9.out.var 2 rfl).1
          obtain ⟨ef0, ef1, ef2, ef3, ef4⟩ := free5 (S9.out.var 2 rfl).1
          clear S9
          go_upto_region 14 with (refine wpList_slice1 rfl (.tmp 44) elem_Ex (by decide) (by decide) rfl [.int .i64 k1, .int .i64 n1, .string s1, .slice a1 m1 c1, .int .i64 p1] rfl rfl ?_)
          generalize (W9.setCell ⟨w1.heap.size + 1, 3, none⟩ (.slice (some ⟨W9.heap.size, 0, none⟩) 1 1)).alloc (.cells #[.int .i64 k1, .int .i64 n1, .string s1, .slice a1 m1 c1, .int .i64 p1] 24) = WA at *
          clear y0 y1 y2 y3 y4 yf0 yf1 yf2 yf3 yf4 e0 e1 e2 e3 e4 ef0 ef1 ef2 ef3 ef4
          obtain ⟨f0, f1⟩ := cells2 (S10.out.var 2 rfl).1
          have ff0 := (S10.out.var 2 rfl).1.free 0
          have ff1 := (S10.out.var 2 rfl).1.free 1
          obtain ⟨e0, e1, e2, e3, e4⟩ := cells5 (S10.out.var 3 rfl).1
          obtain ⟨ef0, ef1, ef2, ef3, ef4⟩ := free5 (S10.out.var 3 rfl).1
          obtain ⟨g0, g1⟩ := cells2 (S10.out.var 5 rfl).1
          have gf0 := (S10.out.var 5 rfl).1.free 0
          have gf1 := (S10.out.var 5 rfl).1.free 1
          obtain ⟨x0, x1, x2, x3, x4⟩ := cells5 (S10.out.var 6 rfl).1
          obtain ⟨xf0, xf1, xf2, xf3, xf4⟩ := free5 (S10.out.var 6 rfl).1
          have SZ := Lib.hid (((S10.out.set5 6 rfl (.int .i64 6) (.int .i64 0) (.string ⟨#[]⟩) (.slice (some ⟨W9.heap.size, 0, none⟩) 1 1) (.int .i64 t.at_)).set2 5 rfl (.int .i64 0) (.int .i64 0)).drew)
          have HT4 := Lib.hid ((HT3.out.keep (foot2' (foot5' (Foot.refl (fun k => k < w.heap.size + 2) WA) (show w.heap.size < w.heap.size + 2 by omega) (.int .i64 6) (.int .i64 0) (.string ⟨#[]⟩) (.slice (some ⟨W9.heap.size, 0, none⟩) 1 1) (.int .i64 t.at_)) (show w.heap.size + 1 < w.heap.size + 2 by omega) (.int .i64 0) (.int .i64 0)).drew (fun k hk hb => by omega)).weak (P' := fun k => w.heap.size ≤ k) (fun k _ hk => by omega))
          clear S10
          go_region
          go_wp2_with fail
          refine bodyPost_ret (v := .tuple #[.agg #[.int .i64 6, .int .i64 0, .string ⟨#[]⟩, .slice (some ⟨W9.heap.size, 0, none⟩) 1 1, .int .i64 t.at_], .agg #[.int .i64 0, .int .i64 0]]) (by simp [results, Tryd.results51, go_sem, *]) rfl ⟨⟨_, j, rfl, HT4.out, hl, hj, SZ.out.rd⟩, SZ.out.foot⟩
    | false =>
      simp only [Bool.false_eq_true, if_false]
      cases hq : prs F .prim (t :: ts.drop (i + 1)) o with
      | error z =>
        obtain ⟨cc, pp⟩ := z
        go_enter Tryd.func51, Tryd.ntmps51
        go_wp2_with fail
        generalize (w.alloc (.cells #[.int .i64 0, .int .i64 0, .string ⟨#[]⟩, .slice none 0 0, .int .i64 0] 24)).alloc (.cells #[.int .i64 0, .int .i64 0] 47) = W1 at *
        refine (NX _ S0.out.rd).mono ?_
        rintro e w1 ⟨rfl, hf⟩
        have S1 := ((S0.out.still hf).alloc #[.int .i64 t.kind, .int .i64 t.at_, .int .i64 t.en, .string (mk t.text), .int .i64 t.n] 72).alloc #[.int .i64 0, .int .i64 0, .string ⟨#[]⟩, .slice none 0 0, .int .i64 t.at_] 24
        rw [size_alloc] at S1
        have S1 := Lib.hid S1
        have hz1 := ((S0.out.still hf).var 0 rfl).1.lt
        clear hf S0
        go_wp2_with fail
        generalize (w1.alloc (.cells #[.int .i64 t.kind, .int .i64 t.at_, .int .i64 t.en, .string (mk t.text), .int .i64 t.n] 72)).alloc (.cells #[.int .i64 0, .int .i64 0, .string ⟨#[]⟩, .slice none 0 0, .int .i64 t.at_] 24) = W2 at *
        refine (IS ⟨#[45]⟩ _).mono ?_
        rintro e w2 ⟨rfl, hf⟩
        rw [show bs ⟨#[45]⟩ = [45] from rfl, h45]
        have S2 := Lib.hid (S1.out.still hf)
        clear hf S1
        obtain ⟨t0, t1, t2, t3, t4⟩ := cells5 (S2.out.var 1 rfl).1
        go_wp2_with fail
        refine (IS ⟨#[33]⟩ _).mono ?_
        rintro e w3 ⟨rfl, hf⟩
        rw [show bs ⟨#[33]⟩ = [33] from rfl, h33]
        have S3 := Lib.hid (S2.out.still hf)
        clear hf S2 t0 t1 t2 t3 t4
        go_wp2_with fail
        refine (SG _ S3.out.rd).mono ?_
        rintro e w4 ⟨hp, hf⟩
        rw [hq] at hp
        have hz3 := (S3.out.var 2 rfl).1.lt
        obtain ⟨u, j, o', rfl, ⟨k1, n1, s1, a1, m1, c1, p1, rfl⟩, hcc, hoo, hj, hr⟩ := hp
        have S4 := Lib.hid (S3.out.step hr hf)
        clear hf hr S3
        obtain ⟨g0, g1⟩ := cells2 (S4.out.var 2 rfl).1
        have gf0 := (S4.out.var 2 rfl).1.free 0
        have gf1 := (S4.out.var 2 rfl).1.free 1
        obtain ⟨x0, x1, x2, x3, x4⟩ := cells5 (S4.out.var 3 rfl).1
        obtain ⟨xf0, xf1, xf2, xf3, xf4⟩ := free5 (S4.out.var 3 rfl).1
        have SZ := Lib.hid ((S4.out.set5 3 rfl (.int .i64 k1) (.int .i64 n1) (.string s1) (.slice a1 m1 c1) (.int .i64 p1)).set2 2 rfl (.int .i64 cc) (.int .i64 pp))
        clear S4
        go_wp2_with fail
        refine bodyPost_ret (v := .tuple #[.agg #[.int .i64 k1, .int .i64 n1, .string s1, .slice a1 m1 c1, .int .i64 p1], .agg #[.int .i64 cc, .int .i64 pp]]) (by simp [results, Tryd.results51, go_sem, *]) rfl ⟨⟨_, j, o', rfl, ⟨_, _, _, _, _, _, _, rfl⟩, hcc, hoo, hj, SZ.out.rd⟩, SZ.out.foot⟩
      | ok z =>
        obtain ⟨x, l⟩ := z
        go_enter Tryd.func51, Tryd.ntmps51
        go_wp2_with fail
        generalize (w.alloc (.cells #[.int .i64 0, .int .i64 0, .string ⟨#[]⟩, .slice none 0 0, .int .i64 0] 24)).alloc (.cells #[.int .i64 0, .int .i64 0] 47) = W1 at *
        refine (NX _ S0.out.rd).mono ?_
        rintro e w1 ⟨rfl, hf⟩
        have S1 := ((S0.out.still hf).alloc #[.int .i64 t.kind, .int .i64 t.at_, .int .i64 t.en, .string (mk t.text), .int .i64 t.n] 72).alloc #[.int .i64 0, .int .i64 0, .string ⟨#[]⟩, .slice none 0 0, .int .i64 t.at_] 24
        rw [size_alloc] at S1
        have S1 := Lib.hid S1
        have hz1 := ((S0.out.still hf).var 0 rfl).1.lt
        clear hf S0
        go_wp2_with fail
        generalize (w1.alloc (.cells #[.int .i64 t.kind, .int .i64 t.at_, .int .i64 t.en, .string (mk t.text), .int .i64 t.n] 72)).alloc (.cells #[.int .i64 0, .int .i64 0, .string ⟨#[]⟩, .slice none 0 0, .int .i64 t.at_] 24) = W2 at *
        refine (IS ⟨#[45]⟩ _).mono ?_
        rintro e w2 ⟨rfl, hf⟩
        rw [show bs ⟨#[45]⟩ = [45] from rfl, h45]
        have S2 := Lib.hid (S1.out.still hf)
        clear hf S1
        obtain ⟨t0, t1, t2, t3, t4⟩ := cells5 (S2.out.var 1 rfl).1
        go_wp2_with fail
        refine (IS ⟨#[33]⟩ _).mono ?_
        rintro e w3 ⟨rfl, hf⟩
        rw [show bs ⟨#[33]⟩ = [33] from rfl, h33]
        have S3 := Lib.hid (S2.out.still hf)
        clear hf S2 t0 t1 t2 t3 t4
        go_wp2_with fail
        refine (SG _ S3.out.rd).mono ?_
        rintro e w4 ⟨hp, hf⟩
        rw [hq] at hp
        have hz3 := (S3.out.var 2 rfl).1.lt
        obtain ⟨u, j, rfl, hTr, hl, hj, hr⟩ := hp
        obtain ⟨k1, n1, s1, a1, m1, c1, p1, rfl⟩ := hTr.five
        have S4 := Lib.hid (S3.out.step hr hf)
        clear hf hr S3
        obtain ⟨g0, g1⟩ := cells2 (S4.out.var 2 rfl).1
        have gf0 := (S4.out.var 2 rfl).1.free 0
        have gf1 := (S4.out.var 2 rfl).1.free 1
        obtain ⟨x0, x1, x2, x3, x4⟩ := cells5 (S4.out.var 3 rfl).1
        obtain ⟨xf0, xf1, xf2, xf3, xf4⟩ := free5 (S4.out.var 3 rfl).1
        have SZ := Lib.hid ((S4.out.set5 3 rfl (.int .i64 k1) (.int .i64 n1) (.string s1) (.slice a1 m1 c1) (.int .i64 p1)).set2 2 rfl (.int .i64 0) (.int .i64 0))
        have HT := Lib.hid (keepL hTr (foot2' (foot5' (Foot.refl (fun k => k < w3.heap.size) w4) (show w.heap.size < w3.heap.size by omega) (.int .i64 k1) (.int .i64 n1) (.string s1) (.slice a1 m1 c1) (.int .i64 p1)) (show w.heap.size + 1 < w3.heap.size by omega) (.int .i64 0) (.int .i64 0)))
        clear S4 hTr
        go_wp2_with fail
        refine bodyPost_ret (v := .tuple #[.agg #[.int .i64 k1, .int .i64 n1, .string s1, .slice a1 m1 c1, .int .i64 p1], .agg #[.int .i64 0, .int .i64 0]]) (by simp [results, Tryd.results51, go_sem, *]) rfl ⟨⟨_, j, rfl, HT.out.weak (fun k _ hk => by omega), hl, hj, SZ.out.rd⟩, SZ.out.foot⟩
end Go.Proofs.YtdibkgjldmepcaaDoor.Xp
