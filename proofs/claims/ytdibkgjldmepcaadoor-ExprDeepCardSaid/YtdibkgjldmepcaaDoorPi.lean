/- operation. -/
import Derived.Test.YtdibkgjldmepcaaDoorPf
import Derived.Test.YtdibkgjldmepcaaDoorPl
import Derived.Test.YtdibkgjldmepcaaDoorGenYn
namespace Go.Proofs.YtdibkgjldmepcaaDoor.Xp
open Go.RowKit Mem Lex Gen
set_option linter.unusedVariables false
set_option linter.unusedSimpArgs false

theorem elem_Ex2 : ElemT 22 24 5 := ElemT.mk' Tryd.underlying22 (show (Tryd.prog.info? 24).map (fun i => (i.zero, i.size, i.bytes)) = some (some (.agg #[.int .i64 0, .int .i64 0, .string ⟨#[]⟩, .slice none 0 0, .int .i64 0]), 5, 64) by kernel_rfl) rfl (by decide)
theorem St.tail {W0 w : World} {R : Nat} {v : Value} {ts : List Tok} {i o : Nat} {x : Nat × TypeId × Array Value} {L : List (Nat × TypeId × Array Value)} (h : St W0 w R v ts i o (x :: L)) : St W0 w R v ts i o L :=
  ⟨h.rd, fun y hy => h.loc y (List.mem_cons_of_mem _ hy), (List.pairwise_cons.1 h.ord).2, h.foot, h.lt, h.own⟩
/-- An answer, either way. -/
theorem Post.mix {W w' : World} {R : Nat} {v : Value} {ts : List Tok} {o : Nat} {r : PRes} {e : Ending} (h : Post W w' R v ts o r e) (ho : o ≤ 12) : ∃ uk un us ua um uc up cc pp j o', e = .returned (.tuple #[.agg #[.int .i64 uk, .int .i64 un, .string us, .slice ua um uc, .int .i64 up], .agg #[.int .i64 cc, .int .i64 pp]]) ∧
    Rd w' R v ts j o' ∧ j < ts.length ∧ (o ≤ o' ∧ o' ≤ 12) ∧ ((cc = 0 ∧ pp = 0 ∧ o' = o ∧ ∃ x, Tr w' (fun k => W.heap.size ≤ k) (.agg #[.int .i64 uk, .int .i64 un, .string us, .slice ua um uc, .int .i64 up]) x ∧ r = .ok (x, ts.drop j)) ∨ (cc ≠ 0 ∧ r = .error (cc, pp))) := by
  cases r with
  | error z =>
    obtain ⟨cc, pp⟩ := z
    obtain ⟨u, j, o', rfl, ⟨k1, n1, s1, a1, m1, c1, p1, rfl⟩, hcc, hoo, hj, hr⟩ := h
    exact ⟨_, _, _, _, _, _, _, _, _, j, o', rfl, hr, hj, hoo, .inr ⟨hcc, rfl⟩⟩
  | ok z =>
    obtain ⟨x, l⟩ := z
    obtain ⟨u, j, rfl, hTr, hl, hj, hr⟩ := h
    obtain ⟨k1, n1, s1, a1, m1, c1, p1, rfl⟩ := hTr.five
    exact ⟨_, _, _, _, _, _, _, _, _, j, o, rfl, hr, hj, by omega, .inl ⟨rfl, rfl, rfl, x, hTr, by rw [hl]⟩⟩
/-- The loop's state: x has been read. -/
structure LOk (w wr : World) (R : Nat) (v : Value) (ts : List Tok) (o n F B : Nat) (full : PRes) (k : Nat) (x : Ex) (j Fl : Nat) (uk un up : Int) (us : ByteArray) (ua : Option Addr) (um uc : Nat) : Prop where
  gk : k = Fl
  lt : j < ts.length
  st : St w wr R v ts j o [(B + 1, 47, #[.int .i64 0, .int .i64 0]), (B, 24, #[.int .i64 uk, .int .i64 un, .string us, .slice ua um uc, .int .i64 up]), (w.heap.size + 1, 47, #[.int .i64 0, .int .i64 0]), (w.heap.size, 24, #[.int .i64 0, .int .i64 0, .string ⟨#[]⟩, .slice none 0 0, .int .i64 0])]
  tr : Tr wr (fun k => w.heap.size + 2 ≤ k ∧ k ≠ B ∧ k ≠ B + 1) (.agg #[.int .i64 uk, .int .i64 un, .string us, .slice ua um uc, .int .i64 up]) x
  eq : full = prs Fl (.loop n x) (ts.drop j) o
  need_ : need (.loop n x) (ts.length - j) ≤ Fl
  le : Fl ≤ F
/-- Or an error has come. -/
structure LEr (w wr : World) (R : Nat) (v : Value) (ts : List Tok) (o B : Nat) (full : PRes) (k : Nat) (j o' : Nat) (cc pp : Int) (uk un up : Int) (us : ByteArray) (ua : Option Addr) (um uc : Nat) : Prop where
  gk : k = 0
  lt : j < ts.length
  st : St w wr R v ts j o' [(B + 1, 47, #[.int .i64 cc, .int .i64 pp]), (B, 24, #[.int .i64 uk, .int .i64 un, .string us, .slice ua um uc, .int .i64 up]), (w.heap.size + 1, 47, #[.int .i64 0, .int .i64 0]), (w.heap.size, 24, #[.int .i64 0, .int .i64 0, .string ⟨#[]⟩, .slice none 0 0, .int .i64 0])]
  eq : full = .error (cc, pp)
  ne : cc ≠ 0
  oo : o ≤ o' ∧ o' ≤ 12

set_option maxHeartbeats 8000000 in
set_option maxRecDepth 100000 in
theorem operation_c (F : Nat) (hop : ∀ F', F' ≤ F → OpC F') (hun : UnC F) : OpC (F + 1) := by
  intro n h1 h6 R v ts i o w h hE hi ho hF
  have S0 := ((St.start h).alloc #[.int .i64 0, .int .i64 0, .string ⟨#[]⟩, .slice none 0 0, .int .i64 0] 24).alloc #[.int .i64 0, .int .i64 0] 47
  rw [size_alloc] at S0
  have hlt0 := h.lt
  have hfew := h.few
  obtain ⟨a, c, rfl⟩ := h.shape
  have S0 := Lib.hid S0
  have HEN := Lib.hid hE
  by_cases hn : n = 6
  · subst hn
    have PF := fun W hW => hun R (.slice a ts.length c) ts i o W hW hE hi ho (by simp only [need] at hF ⊢; omega)
    have hn6 : (((6 : Nat) : Int) == 6) = true := rfl
    rw [prs, if_pos rfl]
    clear h hE hF hop hun
    go_enter Tryd.func35, Tryd.ntmps35
    go_wp2_with fail
    have hsz1 : ((w.alloc (.cells #[.int .i64 0, .int .i64 0, .string ⟨#[]⟩, .slice none 0 0, .int .i64 0] 24)).alloc (.cells #[.int .i64 0, .int .i64 0] 47)).heap.size = w.heap.size + 2 := by rw [size_alloc, size_alloc]
    generalize (w.alloc (.cells #[.int .i64 0, .int .i64 0, .string ⟨#[]⟩, .slice none 0 0, .int .i64 0] 24)).alloc (.cells #[.int .i64 0, .int .i64 0] 47) = W1 at *
    refine (PF _ S0.out.rd).mono ?_
    rintro e w1 ⟨hp, hf⟩
    cases hq : prs F .un (ts.drop i) o with
    | error z =>
      obtain ⟨cc, pp⟩ := z
      rw [hq] at hp
      obtain ⟨u, j, o', rfl, ⟨k1, n1, s1, a1, m1, c1, p1, rfl⟩, hcc, hoo, hj, hr⟩ := hp
      have S4 := Lib.hid (S0.out.step hr hf)
      clear hf hr S0
      obtain ⟨g0, g1⟩ := cells2 (S4.out.var 0 rfl).1
      have gf0 := (S4.out.var 0 rfl).1.free 0
      have gf1 := (S4.out.var 0 rfl).1.free 1
      obtain ⟨x0, x1, x2, x3, x4⟩ := cells5 (S4.out.var 1 rfl).1
      obtain ⟨xf0, xf1, xf2, xf3, xf4⟩ := free5 (S4.out.var 1 rfl).1

      have SZ := Lib.hid ((S4.out.set5 1 rfl (.int .i64 k1) (.int .i64 n1) (.string s1) (.slice a1 m1 c1) (.int .i64 p1)).set2 0 rfl (.int .i64 cc) (.int .i64 pp))
      clear S4
      go_wp2_with fail
      refine bodyPost_ret (v := .tuple #[.agg #[.int .i64 k1, .int .i64 n1, .string s1, .slice a1 m1 c1, .int .i64 p1], .agg #[.int .i64 cc, .int .i64 pp]]) (by simp [results, Tryd.results35, go_sem, *]) rfl ⟨?_, SZ.out.foot⟩
      rw [hq]
      exact ⟨_, j, o', rfl, ⟨_, _, _, _, _, _, _, rfl⟩, hcc, hoo, hj, SZ.out.rd⟩
    | ok z =>
      obtain ⟨x, l⟩ := z
      rw [hq] at hp
      obtain ⟨u, j, rfl, hTr, hl, hj, hr⟩ := hp
      obtain ⟨k1, n1, s1, a1, m1, c1, p1, rfl⟩ := hTr.five
      have S4 := Lib.hid (S0.out.step hr hf)
      clear hf hr S0
      obtain ⟨g0, g1⟩ := cells2 (S4.out.var 0 rfl).1
      have gf0 := (S4.out.var 0 rfl).1.free 0
      have gf1 := (S4.out.var 0 rfl).1.free 1
      obtain ⟨x0, x1, x2, x3, x4⟩ := cells5 (S4.out.var 1 rfl).1
      obtain ⟨xf0, xf1, xf2, xf3, xf4⟩ := free5 (S4.out.var 1 rfl).1

      have SZ := Lib.hid ((S4.out.set5 1 rfl (.int .i64 k1) (.int .i64 n1) (.string s1) (.slice a1 m1 c1) (.int .i64 p1)).set2 0 rfl (.int .i64 0) (.int .i64 0))
      have HT := Lib.hid (keepL hTr (foot2' (foot5' (Foot.refl (fun k => k < W1.heap.size) w1) (show w.heap.size < W1.heap.size by omega) (.int .i64 k1) (.int .i64 n1) (.string s1) (.slice a1 m1 c1) (.int .i64 p1)) (show w.heap.size + 1 < W1.heap.size by omega) (.int .i64 0) (.int .i64 0)))
      clear S4 hTr
      go_wp2_with fail
      refine bodyPost_ret (v := .tuple #[.agg #[.int .i64 k1, .int .i64 n1, .string s1, .slice a1 m1 c1, .int .i64 p1], .agg #[.int .i64 0, .int .i64 0]]) (by simp [results, Tryd.results35, go_sem, *]) rfl ⟨?_, SZ.out.foot⟩
      rw [hq]
      exact ⟨_, j, rfl, HT.out.weak (fun k _ hk => by omega), hl, hj, SZ.out.rd⟩
  · have hn6 : ((n : Int) == 6) = false := by rw [beq_eq_false_iff_ne]; omega
    have hwn : IntKind.i64.wrap ((n : Int) + 1) = (n : Int) + 1 := by rw [IntKind.wrap_i64]; omega
    have hF' : need (.lvl (n + 1)) (ts.length - i) ≤ F := by simp only [need] at hF ⊢; omega
    have OP := fun (F' : Nat) (hle : F' ≤ F) (j : Nat) (hj : j < ts.length) (hnd : need (.lvl (n + 1)) (ts.length - j) ≤ F') W hW => hop F' hle (n + 1) (by omega) (by omega) R (.slice a ts.length c) ts j o W hW hE hj ho hnd
    have hfull : prs (F + 1) (.lvl n) (ts.drop i) o = thenP (prs F (.lvl (n + 1)) (ts.drop i) o) fun x r => prs F (.loop n x) r o := by rw [prs, if_neg hn]
    generalize prs (F + 1) (.lvl n) (ts.drop i) o = full at *
    have HN : Hid (∀ x, need (.loop n x) (ts.length - i) ≤ F + 15) := Lib.hid fun x => by simp only [need] at hF ⊢; omega
    have hFn : 16 * (ts.length - i) + 2 * (8 - n) ≤ F + 1 := by simp only [need] at hF; exact hF
    have OP1 := OP F (Nat.le_refl _) i hi hF'
    have OPH := Lib.hid OP
    clear h hE hF hop hun OP hF' hn
    go_enter Tryd.func35, Tryd.ntmps35
    go_wp2_with fail
    have hsz1 : ((w.alloc (.cells #[.int .i64 0, .int .i64 0, .string ⟨#[]⟩, .slice none 0 0, .int .i64 0] 24)).alloc (.cells #[.int .i64 0, .int .i64 0] 47)).heap.size = w.heap.size + 2 := by rw [size_alloc, size_alloc]
    generalize (w.alloc (.cells #[.int .i64 0, .int .i64 0, .string ⟨#[]⟩, .slice none 0 0, .int .i64 0] 24)).alloc (.cells #[.int .i64 0, .int .i64 0] 47) = W1 at *
    refine (OP1 _ S0.out.rd).mono ?_
    rintro e w1 ⟨hp, hf⟩
    obtain ⟨uk, un, us, ua, um, uc, up, cc, pp, j, o', rfl, hr, hj, hoo, hmix⟩ := hp.mix ho
    clear hp
    have S1 := S0.out.step hr hf
    have hz1 := (S1.var 0 rfl).1.lt
    have S2 := (S1.alloc #[.int .i64 uk, .int .i64 un, .string us, .slice ua um uc, .int .i64 up] 24).alloc #[.int .i64 cc, .int .i64 pp] 47
    rw [size_alloc] at S2
    have HM : Hid (∃ k, (∃ x Fl, LOk w ((w1.alloc (.cells #[.int .i64 uk, .int .i64 un, .string us, .slice ua um uc, .int .i64 up] 24)).alloc (.cells #[.int .i64 cc, .int .i64 pp] 47)) R (.slice a ts.length c) ts o n F w1.heap.size full k x j Fl uk un up us ua um uc) ∨ LEr w ((w1.alloc (.cells #[.int .i64 uk, .int .i64 un, .string us, .slice ua um uc, .int .i64 up] 24)).alloc (.cells #[.int .i64 cc, .int .i64 pp] 47)) R (.slice a ts.length c) ts o w1.heap.size full k j o' cc pp uk un up us ua um uc) := Lib.hid (by
      rcases hmix with ⟨rfl, rfl, rfl, x, hTr, hq⟩ | ⟨hcc, hq⟩
      · refine ⟨F, .inl ⟨x, F, rfl, hj, S2, ?_, ?_, ?_, Nat.le_refl _⟩⟩
        · refine (hTr.weak (P' := fun k => W1.heap.size ≤ k ∧ k < w1.heap.size) (fun k hk h => ⟨h, hk⟩)).keep ((Foot.refl (fun k => False) w1).alloc _ |>.alloc _) (fun k hk => hk.elim) |>.weak (fun k _ hk => by omega)
        · rw [hfull, hq]; rfl
        · have h9 := (prs_len F).1 _ _ _ _ _ hq
          rw [List.length_drop, List.length_drop] at h9
          simp only [need]; omega
      · exact ⟨0, .inr ⟨rfl, hj, S2, by rw [hfull, hq]; rfl, hcc, hoo⟩⟩)
    clear hmix hr hf S0 S1 S2 HN hfull OP1
    obtain ⟨k0, HM⟩ := HM.out
    have HM := Lib.hid HM
    go_wp2_with fail
    generalize (w1.alloc (.cells #[.int .i64 uk, .int .i64 un, .string us, .slice ua um uc, .int .i64 up] 24)).alloc (.cells #[.int .i64 cc, .int .i64 pp] 47) = W2 at *
    have hB : w.heap.size + 2 ≤ w1.heap.size := by omega
    have HB := Lib.hid hsz1
    generalize w1.heap.size = B at *
    clear hsz1 hz1
    go_loopg [9] k0 (fun k (_ : Value) wr => ∃ uk un up us ua um uc, (∃ x j Fl, LOk w wr R (.slice a ts.length c) ts o n F B full k x j Fl uk un up us ua um uc) ∨ (∃ j o' cc pp, LEr w wr R (.slice a ts.length c) ts o B full k j o' cc pp uk un up us ua um uc))
    case atStart => exact ⟨_, _, _, _, _, _, _, HM.out.imp (fun ⟨x, Fl, h⟩ => ⟨x, j, Fl, h⟩) (fun h => ⟨j, o', cc, pp, h⟩)⟩
    case round =>
      clear HM hj hoo
      obtain ⟨uk, un, up, us, ua, um, uc, hrel⟩ := hrel
      rcases hrel with ⟨x, j, Fl, hL⟩ | ⟨j, o', cc, pp, hL⟩
      · have hgk := hL.gk
        have hj := hL.lt
        have hnd := hL.need_
        have hle := hL.le
        have HEQ := Lib.hid hL.eq
        have HT := Lib.hid hL.tr
        have SA := Lib.hid hL.st
        clear hL
        have NX := fun W hW => next_c R (.slice a ts.length c) ts j o W hW hj
        have BN := fun W => binary_c ts[j] W
        have LV := fun W => xlevel_c (binK ts[j]) W
        obtain ⟨G, rfl⟩ : ∃ G, Fl = G + 1 := ⟨Fl - 1, by simp only [need] at hnd; omega⟩
        have hdj := drop_at hj
        have hkk : binK ts[j] ≠ 0 → j + 1 < ts.length := fun h => HEN.out.last hj (binK_kind h)
        have HE2 : Hid (full = prs (G + 1) (.loop n x) (ts[j] :: ts.drop (j + 1)) o) := Lib.hid (by rw [← hdj]; exact HEQ.out)
        have HDJ := Lib.hid hdj
        generalize ts[j] = t at *
        unfold tokV at NX BN
        rw [strV_mk] at NX BN
        clear HEQ hdj
        obtain ⟨l0, l1⟩ := cells2 (SA.out.var 0 rfl).1
        have lf0 := (SA.out.var 0 rfl).1.free 0
        have lf1 := (SA.out.var 0 rfl).1.free 1
        by_cases hlv : lev (binK t) = n
        · have hzA := (SA.out.var 0 rfl).1.lt
          have hlb : (lev (binK t) != n) = false := by rw [bne_eq_false_iff_eq]; exact hlv
          have hj1 := hkk (by intro h0; rw [h0] at hlv; unfold lev at hlv; simp at hlv; omega)
          have hGF : G ≤ F := by omega
          have hnd2 : need (.lvl (n + 1)) (ts.length - (j + 1)) ≤ G := by simp only [need] at hnd ⊢; omega
          have OP2 := OPH.out G hGF (j + 1) hj1 hnd2
          have HE3 : Hid (full = thenP (prs G (.lvl (n + 1)) (ts.drop (j + 1)) o) fun y r' => if n = 3 then .ok (.node (binK t) 0 [] [x, y] t.at_, r') else prs G (.loop n (.node (binK t) 0 [] [x, y] t.at_)) r' o) := Lib.hid (by rw [HE2.out, prs]; (try dsimp only); rw [if_pos hlv])
          have hw1 : IntKind.i64.wrap ((j : Int) + 1) = (j : Int) + 1 := by rw [IntKind.wrap_i64]; omega
          clear hlv hkk HE2 HDJ
          go_wp2_with fail
          refine (NX _ SA.out.rd).mono ?_
          rintro e wa ⟨rfl, hf⟩
          have SB := Lib.hid ((SA.out.still hf).alloc #[.int .i64 t.kind, .int .i64 t.at_, .int .i64 t.en, .string (mk t.text), .int .i64 t.n] 72)
          have HFX : Hid (Foot (fun k => k = R ∨ k = B ∨ k = B + 1 ∨ wr.heap.size ≤ k) wr _) := Lib.hid ((hf.mono fun _ _ h => h.elim).alloc (.cells #[.int .i64 t.kind, .int .i64 t.at_, .int .i64 t.en, .string (mk t.text), .int .i64 t.n] 72))
          clear hf SA l0 l1 lf0 lf1
          go_wp2_with fail
          generalize wa.alloc (.cells #[.int .i64 t.kind, .int .i64 t.at_, .int .i64 t.en, .string (mk t.text), .int .i64 t.n] 72) = WB at *
          refine (BN _).mono ?_
          rintro e wb ⟨rfl, hf⟩
          have SC := Lib.hid (SB.out.still hf)
          have HFX := Lib.hid (HFX.out.trans hf fun _ _ h => h.elim)
          clear hf SB
          go_upto_region 8 with (go_at_call 37; refine (LV _).mono ?_; rintro e wb ⟨rfl, rfl⟩)
          obtain ⟨r0, r1, r2⟩ := cells3 SC.out.rd.rd
          have r3 := SC.out.rd.rd.free 1
          have SD := Lib.hid SC.out.inc
          have HFX := Lib.hid (HFX.out.setCell (p := ⟨R, 1, none⟩) (fun _ => .inl rfl) (.int .i64 ((j : Int) + 1)))
          have hzb := (SC.out.var 0 rfl).1.lt
          have hzr := HFX.out.size
          rw [size_set] at hzr
          have hszb := size_set wb ⟨R, 1, none⟩ (.int .i64 ((j : Int) + 1))
          clear SC
          go_upto_region 9 with fail
          generalize wb.setCell ⟨R, 1, none⟩ (.int .i64 ((j : Int) + 1)) = WC0 at *
          have SE := SD.out.alloc #[.int .i64 0, .int .i64 0, .string ⟨#[]⟩, .slice none 0 0, .int .i64 0] 24
          rw [hszb] at SE
          have SE := Lib.hid SE
          have HFX := Lib.hid (HFX.out.alloc (.cells #[.int .i64 0, .int .i64 0, .string ⟨#[]⟩, .slice none 0 0, .int .i64 0] 24))
          have hszc := size_alloc WC0 (.cells #[.int .i64 0, .int .i64 0, .string ⟨#[]⟩, .slice none 0 0, .int .i64 0] 24)
          rw [hszb] at hszc
          clear SD r0 r1 r2 r3
          go_wp2_with fail
          generalize WC0.alloc (.cells #[.int .i64 0, .int .i64 0, .string ⟨#[]⟩, .slice none 0 0, .int .i64 0] 24) = WC at *
          refine (OP2 _ SE.out.rd).mono ?_
          rintro e wd ⟨hp, hf⟩
          obtain ⟨yk, yn, ys, ya, ym, yc, yp, cc, pp, j2, o', rfl, hr, hj2, hoo, hmix⟩ := hp.mix ho
          clear hp
          have SF := Lib.hid (SE.out.step hr hf)
          have HFX := Lib.hid (HFX.out.trans hf fun _ _ h => .inl h)
          have HMX := Lib.hid hmix
          clear hr hf SE hmix
          obtain ⟨y0, y1, y2, y3, y4⟩ := cells5 (SF.out.var 0 rfl).1
          obtain ⟨yf0, yf1, yf2, yf3, yf4⟩ := free5 (SF.out.var 0 rfl).1
          obtain ⟨f0, f1⟩ := cells2 (SF.out.var 2 rfl).1
          have ff0 := (SF.out.var 2 rfl).1.free 0
          have ff1 := (SF.out.var 2 rfl).1.free 1
          have hzd := (SF.out.var 0 rfl).1.lt
          have SG := Lib.hid ((SF.out.set5 0 rfl (.int .i64 yk) (.int .i64 yn) (.string ys) (.slice ya ym yc) (.int .i64 yp)).set2 2 rfl (.int .i64 cc) (.int .i64 pp))
          have HFX := Lib.hid (foot2' (foot5' HFX.out (show wb.heap.size = R ∨ wb.heap.size = B ∨ wb.heap.size = B + 1 ∨ wr.heap.size ≤ wb.heap.size by omega) (.int .i64 yk) (.int .i64 yn) (.string ys) (.slice ya ym yc) (.int .i64 yp)) (show B + 1 = R ∨ B + 1 = B ∨ B + 1 = B + 1 ∨ wr.heap.size ≤ B + 1 by omega) (.int .i64 cc) (.int .i64 pp))
          have HFY := Lib.hid (foot2' (foot5' (Foot.refl (fun k => k < WC.heap.size) wd) (show wb.heap.size < WC.heap.size by omega) (.int .i64 yk) (.int .i64 yn) (.string ys) (.slice ya ym yc) (.int .i64 yp)) (show B + 1 < WC.heap.size by omega) (.int .i64 cc) (.int .i64 pp))
          clear SF
          go_upto_region 11 with fail
          generalize ((((((wd.setCell ⟨wb.heap.size, 0, none⟩ (.int .i64 yk)).setCell ⟨wb.heap.size, 1, none⟩ (.int .i64 yn)).setCell ⟨wb.heap.size, 2, none⟩ (.string ys)).setCell ⟨wb.heap.size, 3, none⟩ (.slice ya ym yc)).setCell ⟨wb.heap.size, 4, none⟩ (.int .i64 yp)).setCell ⟨B + 1, 0, none⟩ (.int .i64 cc)).setCell ⟨B + 1, 1, none⟩ (.int .i64 pp) = WD at *
          clear y0 y1 y2 y3 y4 yf0 yf1 yf2 yf3 yf4 f0 f1 ff0 ff1
          obtain ⟨y0, y1, y2, y3, y4⟩ := cells5 (SG.out.var 0 rfl).1
          obtain ⟨yf0, yf1, yf2, yf3, yf4⟩ := free5 (SG.out.var 0 rfl).1
          obtain ⟨t0, t1, t2, t3, t4⟩ := cells5 (SG.out.var 1 rfl).1
          obtain ⟨x0, x1, x2, x3, x4⟩ := cells5 (SG.out.var 3 rfl).1
          obtain ⟨xf0, xf1, xf2, xf3, xf4⟩ := free5 (SG.out.var 3 rfl).1
          have hzD := (SG.out.var 0 rfl).1.lt
          have hzB : B < WD.heap.size := by omega
          have hzt := (SG.out.var 1 rfl).1.lt
          have SH := (SG.out.set5 3 rfl (.int .i64 (binK t)) (.int .i64 0) (.string ⟨#[]⟩) (.slice (some ⟨WD.heap.size, 0, none⟩) 2 2) (.int .i64 t.at_)).alloc #[.int .i64 uk, .int .i64 un, .string us, .slice ua um uc, .int .i64 up, .int .i64 yk, .int .i64 yn, .string ys, .slice ya ym yc, .int .i64 yp] 24
          rw [size_set, size_set, size_set, size_set, size_set] at SH
          have SH := Lib.hid SH
          have HFX := Lib.hid ((foot5' HFX.out (show B = R ∨ B = B ∨ B = B + 1 ∨ wr.heap.size ≤ B by omega) (.int .i64 (binK t)) (.int .i64 0) (.string ⟨#[]⟩) (.slice (some ⟨WD.heap.size, 0, none⟩) 2 2) (.int .i64 t.at_)).alloc (.cells #[.int .i64 uk, .int .i64 un, .string us, .slice ua um uc, .int .i64 up, .int .i64 yk, .int .i64 yn, .string ys, .slice ya ym yc, .int .i64 yp] 24))
          have HFY := Lib.hid ((foot5' HFY.out (show B < WC.heap.size by omega) (.int .i64 (binK t)) (.int .i64 0) (.string ⟨#[]⟩) (.slice (some ⟨WD.heap.size, 0, none⟩) 2 2) (.int .i64 t.at_)).alloc (.cells #[.int .i64 uk, .int .i64 un, .string us, .slice ua um uc, .int .i64 up, .int .i64 yk, .int .i64 yn, .string ys, .slice ya ym yc, .int .i64 yp] 24))
          go_upto_region 12 with (first | (refine wpList_sliceN rfl 2 #[(0, .tmp 50), (1, .tmp 51)] elem_Ex2 (by decide) (by decide) (by decide) rfl [[.int .i64 uk, .int .i64 un, .string us, .slice ua um uc, .int .i64 up], [.int .i64 yk, .int .i64 yn, .string ys, .slice ya ym yc, .int .i64 yp]] rfl (by intro us hu; simp at hu; rcases hu with rfl | rfl <;> rfl) rfl ?_; simp only [List.flatten_cons, List.flatten_nil, List.append_nil, List.cons_append, List.nil_append]))
          generalize ((((((WD.setCell ⟨B, 0, none⟩ (.int .i64 (binK t))).setCell ⟨B, 1, none⟩ (.int .i64 0)).setCell ⟨B, 2, none⟩ (.string ⟨#[]⟩)).setCell ⟨B, 3, none⟩ (.slice (some ⟨WD.heap.size, 0, none⟩) 2 2)).setCell ⟨B, 4, none⟩ (.int .i64 t.at_))).alloc (.cells #[.int .i64 uk, .int .i64 un, .string us, .slice ua um uc, .int .i64 up, .int .i64 yk, .int .i64 yn, .string ys, .slice ya ym yc, .int .i64 yp] 24) = WE at *
          clear y0 y1 y2 y3 y4 yf0 yf1 yf2 yf3 yf4 t0 t1 t2 t3 t4 x0 x1 x2 x3 x4 xf0 xf1 xf2 xf3 xf4 SG
          have HNEW : Hid (∀ y, Tr wd (fun k => WC.heap.size ≤ k) (.agg #[.int .i64 yk, .int .i64 yn, .string ys, .slice ya ym yc, .int .i64 yp]) y → Tr WE (fun k => w.heap.size + 2 ≤ k ∧ k ≠ B ∧ k ≠ B + 1) (.agg #[.int .i64 (binK t), .int .i64 0, .string ⟨#[]⟩, .slice (some ⟨WD.heap.size, 0, none⟩) 2 2, .int .i64 t.at_]) (.node (binK t) 0 [] [x, y] t.at_)) := Lib.hid fun y hy => by
            refine Tr.two (SH.out.var 0 rfl).1 (by omega) ?_ ?_
            · exact (((HT.out.weak (P' := fun k => (w.heap.size + 2 ≤ k ∧ k ≠ B ∧ k ≠ B + 1) ∧ k < wr.heap.size) (fun k hk h => ⟨h, hk⟩)).keep HFX.out (fun k hk hb => by omega)).weak (fun k _ hk => hk.1))
            · exact (keepL hy HFY.out).weak (fun k _ hk => by omega)
          have SI := Lib.hid SH.out.tail.tail.tail
          clear SH HT HFX HFY
          by_cases hn3 : n = 3
          · have hb3 : ((n : Int) == 3) = true := by rw [hn3]; rfl
            simp only [if_pos hn3] at HE3
            clear hn3
            go_wp2_with fail
            obtain ⟨f0, f1⟩ := cells2 (SI.out.var 0 rfl).1
            have ff0 := (SI.out.var 0 rfl).1.free 0
            have ff1 := (SI.out.var 0 rfl).1.free 1
            obtain ⟨e0, e1, e2, e3, e4⟩ := cells5 (SI.out.var 1 rfl).1
            obtain ⟨ef0, ef1, ef2, ef3, ef4⟩ := free5 (SI.out.var 1 rfl).1
            obtain ⟨g0, g1⟩ := cells2 (SI.out.var 2 rfl).1
            have gf0 := (SI.out.var 2 rfl).1.free 0
            have gf1 := (SI.out.var 2 rfl).1.free 1
            obtain ⟨x0, x1, x2, x3, x4⟩ := cells5 (SI.out.var 3 rfl).1
            obtain ⟨xf0, xf1, xf2, xf3, xf4⟩ := free5 (SI.out.var 3 rfl).1
            have SZ := Lib.hid (((SI.out.set5 3 rfl (.int .i64 (binK t)) (.int .i64 0) (.string ⟨#[]⟩) (.slice (some ⟨WD.heap.size, 0, none⟩) 2 2) (.int .i64 t.at_)).set2 2 rfl (.int .i64 cc) (.int .i64 pp)).drew)
            go_region
            go_wp2_with fail

            refine bodyPost_ret (v := .tuple #[.agg #[.int .i64 (binK t), .int .i64 0, .string ⟨#[]⟩, .slice (some ⟨WD.heap.size, 0, none⟩) 2 2, .int .i64 t.at_], .agg #[.int .i64 cc, .int .i64 pp]]) (by simp [results, Tryd.results35, go_sem, *]) rfl ⟨?_, SZ.out.foot⟩
            rw [HE3.out]
            rcases HMX.out with ⟨rfl, rfl, rfl, y, hTr, hq⟩ | ⟨hcc, hq⟩
            · rw [hq]
              refine ⟨_, j2, rfl, ?_, rfl, hj2, SZ.out.rd⟩
              exact ((HNEW.out y hTr).keep (foot2' (foot5' (Foot.refl (fun k => k < w.heap.size + 2) _) (show w.heap.size < w.heap.size + 2 by omega) (.int .i64 (binK t)) (.int .i64 0) (.string ⟨#[]⟩) (.slice (some ⟨WD.heap.size, 0, none⟩) 2 2) (.int .i64 t.at_)) (show w.heap.size + 1 < w.heap.size + 2 by omega) (.int .i64 0) (.int .i64 0)).drew (fun k hk hb => by omega)).weak (fun k _ hk => by omega)
            · rw [hq]
              exact ⟨_, j2, o', rfl, ⟨_, _, _, _, _, _, _, rfl⟩, hcc, hoo, hj2, SZ.out.rd⟩
          · have hb3 : ((n : Int) == 3) = false := by rw [beq_eq_false_iff_ne]; omega
            simp only [if_neg hn3] at HE3
            clear hn3
            go_wp2_with fail
            go_roundg (if cc = 0 then G else 0)
            case measure => split <;> omega
            case rel =>
              refine ⟨binK t, 0, t.at_, ⟨#[]⟩, some ⟨WD.heap.size, 0, none⟩, 2, 2, ?_⟩
              rcases HMX.out with ⟨rfl, rfl, rfl, y, hTr, hq⟩ | ⟨hcc, hq⟩
              · refine .inl ⟨_, j2, G, rfl, hj2, SI.out, HNEW.out y hTr, by rw [HE3.out, hq]; rfl, ?_, hGF⟩
                have h9 := (prs_len G).1 _ _ _ _ _ hq
                rw [List.length_drop, List.length_drop] at h9
                simp only [need] at hnd ⊢; omega
              · exact .inr ⟨j2, o', cc, pp, by rw [if_neg hcc], hj2, SI.out, by rw [HE3.out, hq]; rfl, hcc, hoo⟩
        · have hlb : (lev (binK t) != n) = true := by rw [bne_iff_ne]; exact hlv
          have HR : Hid (full = .ok (x, ts.drop j)) := Lib.hid (by rw [HE2.out, prs]; (try dsimp only); rw [if_neg hlv, HDJ.out])
          clear hlv
          go_wp2_with fail
          refine (NX _ SA.out.rd).mono ?_
          rintro e wa ⟨rfl, hf⟩
          have SB := Lib.hid ((SA.out.still hf).alloc #[.int .i64 t.kind, .int .i64 t.at_, .int .i64 t.en, .string (mk t.text), .int .i64 t.n] 72)
          have HFX := Lib.hid ((Foot.refl (fun _ => False) wr).trans hf (fun _ _ h => h) |>.alloc (.cells #[.int .i64 t.kind, .int .i64 t.at_, .int .i64 t.en, .string (mk t.text), .int .i64 t.n] 72))
          clear hf SA l0 l1 lf0 lf1
          go_wp2_with fail
          generalize wa.alloc (.cells #[.int .i64 t.kind, .int .i64 t.at_, .int .i64 t.en, .string (mk t.text), .int .i64 t.n] 72) = WB at *
          refine (BN _).mono ?_
          rintro e wb ⟨rfl, hf⟩
          have SC := Lib.hid (SB.out.still hf)
          have HFX := Lib.hid (HFX.out.trans hf fun _ _ h => h)
          clear hf SB
          go_wp2_with (go_at_call 37; refine (LV _).mono ?_; rintro e w' ⟨rfl, rfl⟩)
          obtain ⟨f0, f1⟩ := cells2 (SC.out.var 1 rfl).1
          have ff0 := (SC.out.var 1 rfl).1.free 0
          have ff1 := (SC.out.var 1 rfl).1.free 1
          obtain ⟨e0, e1, e2, e3, e4⟩ := cells5 (SC.out.var 2 rfl).1
          obtain ⟨ef0, ef1, ef2, ef3, ef4⟩ := free5 (SC.out.var 2 rfl).1
          obtain ⟨g0, g1⟩ := cells2 (SC.out.var 3 rfl).1
          have gf0 := (SC.out.var 3 rfl).1.free 0
          have gf1 := (SC.out.var 3 rfl).1.free 1
          obtain ⟨x0, x1, x2, x3, x4⟩ := cells5 (SC.out.var 4 rfl).1
          obtain ⟨xf0, xf1, xf2, xf3, xf4⟩ := free5 (SC.out.var 4 rfl).1
          have SZ := Lib.hid (((SC.out.set5 4 rfl (.int .i64 uk) (.int .i64 un) (.string us) (.slice ua um uc) (.int .i64 up)).set2 3 rfl (.int .i64 0) (.int .i64 0)).drew)
          go_region
          go_wp2_with fail
          refine bodyPost_ret (v := .tuple #[.agg #[.int .i64 uk, .int .i64 un, .string us, .slice ua um uc, .int .i64 up], .agg #[.int .i64 0, .int .i64 0]]) (by simp [results, Tryd.results35, go_sem, *]) rfl ⟨?_, SZ.out.foot⟩
          rw [HR.out]
          refine ⟨_, j, rfl, ?_, rfl, hj, SZ.out.rd⟩
          refine ((HT.out.keep HFX.out (fun k hk => hk.elim)).keep (foot2' (foot5' (Foot.refl (fun k => k < w.heap.size + 2) _) (show w.heap.size < w.heap.size + 2 by omega) (.int .i64 uk) (.int .i64 un) (.string us) (.slice ua um uc) (.int .i64 up)) (show w.heap.size + 1 < w.heap.size + 2 by omega) (.int .i64 0) (.int .i64 0)).drew (fun k hk hb => by omega)).weak (fun k _ hk => by omega)
      · have hcc := hL.ne
        have SA := Lib.hid hL.st
        have HL := Lib.hid hL
        clear hL
        have b1 : (cc == 0) = false := by rw [beq_eq_false_iff_ne]; exact hcc
        obtain ⟨l0, l1⟩ := cells2 (SA.out.var 0 rfl).1
        have lf0 := (SA.out.var 0 rfl).1.free 0
        have lf1 := (SA.out.var 0 rfl).1.free 1
        clear hcc
        go_wp2_with fail
        clear l0 l1 lf0 lf1
        obtain ⟨f0, f1⟩ := cells2 (SA.out.var 0 rfl).1
        have ff0 := (SA.out.var 0 rfl).1.free 0
        have ff1 := (SA.out.var 0 rfl).1.free 1
        obtain ⟨e0, e1, e2, e3, e4⟩ := cells5 (SA.out.var 1 rfl).1
        obtain ⟨ef0, ef1, ef2, ef3, ef4⟩ := free5 (SA.out.var 1 rfl).1
        obtain ⟨g0, g1⟩ := cells2 (SA.out.var 2 rfl).1
        have gf0 := (SA.out.var 2 rfl).1.free 0
        have gf1 := (SA.out.var 2 rfl).1.free 1
        obtain ⟨x0, x1, x2, x3, x4⟩ := cells5 (SA.out.var 3 rfl).1
        obtain ⟨xf0, xf1, xf2, xf3, xf4⟩ := free5 (SA.out.var 3 rfl).1
        have SZ := Lib.hid (((SA.out.set5 3 rfl (.int .i64 uk) (.int .i64 un) (.string us) (.slice ua um uc) (.int .i64 up)).set2 2 rfl (.int .i64 cc) (.int .i64 pp)).drew)
        go_region
        go_wp2_with fail
        refine bodyPost_ret (v := .tuple #[.agg #[.int .i64 uk, .int .i64 un, .string us, .slice ua um uc, .int .i64 up], .agg #[.int .i64 cc, .int .i64 pp]]) (by simp [results, Tryd.results35, go_sem, *]) rfl ⟨?_, SZ.out.foot⟩
        rw [HL.out.eq]
        exact ⟨_, j, o', rfl, ⟨_, _, _, _, _, _, _, rfl⟩, HL.out.ne, HL.out.oo, HL.out.lt, SZ.out.rd⟩
end Go.Proofs.YtdibkgjldmepcaaDoor.Xp
