/- expr.write, Print. -/
import Derived.Test.YtdibkgjldmepcaaDoorPw
namespace Go.Proofs.YtdibkgjldmepcaaDoor.Xp
open Go.RowKit Mem Lex Gen
set_option linter.unusedVariables false
set_option linter.unusedSimpArgs false

/-- What write does with an expression. -/
def WrC (x : Ex) : Prop := ∀ (W0 : World) (b : Nat), Vars W0 → W0.heap.size ≤ b → ∀ (least : Int) (l : Bytes) (v : Value) (w : World), 1 ≤ least → least ≤ 7 → Foot (fun k => W0.heap.size ≤ k) W0 w → Tr w (fun k => k < b) v x → BK w b l →
  l.length + 64 * sizeX x ≤ 1000000000 → Calls Tryd.prog 24 #[.pointer (some ⟨b, 0, none⟩), v, .int .i64 least] w fun e w' => e = .returned (.tuple #[]) ∧ BK w' b (l ++ wrapT (lev x.kind) least (textX x)) ∧ FK b w w'
/-- All that a call of write holds: its box, the builder. -/
structure WS (W0 w wi : World) (b : Nat) (cs : Array Value) (l : Bytes) : Prop where
  box : At wi w.heap.size 24 cs
  bk : BK wi b l
  fk : FK b w wi
  foot : Foot (fun k => W0.heap.size ≤ k) W0 wi
  lt : b < w.heap.size
  hb : W0.heap.size ≤ b
section
variable {W0 w wi wj : World} {b : Nat} {cs : Array Value} {l l' : Bytes}
theorem WS.still (h : WS W0 w wi b cs l) (hf : Foot (fun _ => False) wi wj) : WS W0 w wj b cs l :=
  ⟨h.box.keep hf id, h.bk.still hf, h.fk.trans (FK.of (Nat.le_of_lt h.bk.lt) hf), h.foot.trans hf fun _ _ h => h.elim, h.lt, h.hb⟩
theorem WS.step (h : WS W0 w wi b cs l) (hb : BK wj b l') (hf : FK b wi wj) : WS W0 w wj b cs l' :=
  ⟨hf.at_ h.box (by have := h.lt; omega) (by decide), hb, h.fk.trans hf, h.foot.trans hf.foot fun k _ hk => Nat.le_trans h.hb hk, h.lt, h.hb⟩
theorem WS.vars (h : WS W0 w wi b cs l) (hv : Vars W0) : Vars wi := Vars.keepB hv h.foot
theorem WS.start (hf : Foot (fun k => W0.heap.size ≤ k) W0 w) (hk : BK w b l) (hb : W0.heap.size ≤ b) (cs : Array Value) : WS W0 w (w.alloc (.cells cs 24)) b cs l :=
  ⟨At.new w _ cs, hk.still ((Foot.refl _ w).alloc _), FK.of (Nat.le_of_lt hk.lt) ((Foot.refl _ w).alloc _), hf.alloc _, hk.lt, hb⟩
theorem WS.cell (h : WS W0 w wi b cs l) {p : Addr} {u : Value} (hc : w.cell? p = some u) (hp : p.block < b) : wi.cell? p = some u := by
  rw [h.fk.foot.cell (World.block_lt_of_cell? w p hc) (by omega)]; exact hc
theorem WS.tr (h : WS W0 w wi b cs l) {u : Value} {x : Ex} (hx : Tr w (fun k => k < b) u x) : Tr wi (fun k => k < b) u x := hx.keep h.fk.foot fun k hk hb => by omega
end
theorem kind_node (k n p : Int) (s : Bytes) (l : List Ex) : Ex.kind (.node k n s l p) = k := rfl
theorem app3 (a b c : Bytes) : a ++ b ++ c = a ++ (b ++ c) := List.append_assoc ..

set_option maxHeartbeats 4000000 in
set_option maxRecDepth 100000 in
theorem write_leaf (k n p : Int) (s : Bytes) (hok : Ok (.node k n s [] p)) (hlv : lev k = 7) (hn : -9223372036854775808 ≤ n ∧ n ≤ 9223372036854775807) (hs : s.length ≤ 24) : WrC (.node k n s [] p) := by
  intro W0 b hv hb least l v w hl1 hl7 hf htr hbk hlen
  obtain ⟨a, c, rfl, _⟩ := htr.open
  have hk := hok.kind
  have htl := hok.textlen
  have htx : textX (.node k n s [] p) = wordX k n s := by rw [wordX_ok (k := k) (n := n) (s := s) hk, textX]
  rw [htx] at htl ⊢
  simp only [kind_node, sizeX, List.length_nil] at hk htl hlen ⊢
  have LV := fun W => xlevel_c k W
  have WD := fun W hW => word_c k n p s a 0 c W hW hn.1 hn.2 (by omega)
  have S0 := Lib.hid (WS.start hf hbk hb #[.int .i64 k, .int .i64 n, .string (mk s), .slice a 0 c, .int .i64 p])
  obtain ⟨c0, c1, c2, c3, c4⟩ := cells5 S0.out.box
  have HV := Lib.hid hv
  rw [hlv] at LV ⊢
  clear htx hf htr hbk hv hok hn hs
  by_cases hls : (7 : Int) < least
  · exact absurd hls (by omega)
  · rw [wrapT, if_neg hls]
    go_enter Tryd.func24, Tryd.ntmps24
    go_upto_region 2 with (go_at_call 37; refine (LV _).mono ?_; rintro e w' ⟨rfl, rfl⟩)
    generalize w.alloc (.cells #[.int .i64 k, .int .i64 n, .string (mk s), .slice a 0 c, .int .i64 p] 24) = W1 at *
    have S1 := S0
    clear S0
    obtain ⟨c0, c1, c2, c3, c4⟩ := cells5 S1.out.box
    go_wp2_with fail
    refine (WD _ (S1.out.vars HV.out)).mono ?_
    rintro e wa ⟨rfl, hf⟩
    have S2 := Lib.hid (S1.out.still hf)
    clear hf S1 c0 c1 c2 c3 c4
    obtain ⟨c0, c1, c2, c3, c4⟩ := cells5 S2.out.box
    go_wp2_with fail
    refine (ws_c b _ (wordX k n s) _ S2.out.bk (by (try simp only [List.length_append, List.length_cons, List.length_nil]); omega) (by (try simp only [List.length_append, List.length_cons, List.length_nil]); omega)).mono ?_
    rintro e wc ⟨rfl, hbk, hfk⟩
    have S3 := Lib.hid (S2.out.step hbk hfk)
    clear hbk hfk S2 c0 c1 c2 c3 c4
    obtain ⟨c0, c1, c2, c3, c4⟩ := cells5 S3.out.box
    go_wp2_with fail
    go_end0
    exact ⟨rfl, by have := S3.out.bk; simpa only [List.append_assoc, List.cons_append, List.nil_append] using this, S3.out.fk⟩

set_option maxHeartbeats 4000000 in
set_option maxRecDepth 100000 in
theorem write_un (k p : Int) (x : Ex) (hk : k = 5 ∨ k = 6) (hx : Ok x) (IH0 : WrC x) : WrC (.node k 0 [] [x] p) := by
  intro W0 b hv hb least l v w hl1 hl7 hf htr hbk hlen
  have hok := Ok.un k x p hk hx
  obtain ⟨a, c, rfl, hc1, hc2, hkid⟩ := htr.open
  have hkind := hok.kind
  have htl := hok.textlen
  simp only [kind_node, sizeX, textX, List.length_cons, List.length_nil, Nat.zero_add, List.length_append] at hkind htl hlen hc1 hkid htr ⊢
  obtain ⟨g, off, a0, a1, a2, a3, a4, rfl, ⟨x0, x1, x2, x3, x4⟩, ht0⟩ := hkid 0 _ rfl
  obtain ⟨k0, n0, s0, q0, m0, r0, p0, hv0⟩ := ht0.five
  simp only [Value.agg.injEq, Array.mk.injEq, List.cons.injEq, and_true] at hv0
  obtain ⟨rfl, rfl, rfl, rfl, rfl⟩ := hv0
  have hgb : g < b := (htr.blk _ rfl).1
  have HK00 := Lib.hid x0
  have HK01 := Lib.hid x1
  have HK02 := Lib.hid x2
  have HK03 := Lib.hid x3
  have HK04 := Lib.hid x4
  have HT0 := Lib.hid ht0
  have LV := fun W => xlevel_c k W
  have WD := fun W hW => word_c k 0 p [] (some ⟨g, off, none⟩) 1 c W hW (by decide) (by decide) (by decide)
  have S0 := Lib.hid (WS.start hf hbk hb #[.int .i64 k, .int .i64 0, .string (mk []), .slice (some ⟨g, off, none⟩) 1 c, .int .i64 p])
  obtain ⟨c0, c1, c2, c3, c4⟩ := cells5 S0.out.box
  have HV := Lib.hid hv
  have hlv := lev_un hk
  have hw := wordX_ok (k := k) (n := 0) (s := []) (by omega)
  have hwd : wordD k 0 [] = opT k := by unfold wordD; rw [if_neg (by omega), if_neg (by omega), if_neg (by omega), if_neg (by omega)]
  rw [hw, hwd] at WD
  have ND0 := fun W => needed_c (lev k) 0 W (by omega) (by omega)
  rw [hlv] at LV ND0 ⊢
  simp only [if_true] at ND0
  have ho := op_len k
  clear hf htr hbk hv hok hkid hw hwd x0 x1 x2 x3 x4 ht0
  by_cases hls : (6 : Int) < least
  · rw [wrapT, if_pos hls]
    go_enter Tryd.func24, Tryd.ntmps24
    go_upto_region 2 with (go_at_call 37; refine (LV _).mono ?_; rintro e w' ⟨rfl, rfl⟩)
    generalize w.alloc (.cells #[.int .i64 k, .int .i64 0, .string (mk []), .slice (some ⟨g, off, none⟩) 1 c, .int .i64 p] 24) = W1 at *
    go_wp2_with fail
    refine (wb_c b l 40 _ S0.out.bk (by omega)).mono ?_
    rintro e w1 ⟨rfl, hbk, hfk⟩
    have S1 := Lib.hid (S0.out.step hbk hfk)
    clear hbk hfk S0
    obtain ⟨c0, c1, c2, c3, c4⟩ := cells5 S1.out.box
    go_wp2_with fail
    refine (WD _ (S1.out.vars HV.out)).mono ?_
    rintro e wa ⟨rfl, hf⟩
    have S2 := Lib.hid (S1.out.still hf)
    clear hf S1 c0 c1 c2 c3 c4
    obtain ⟨c0, c1, c2, c3, c4⟩ := cells5 S2.out.box
    go_wp2_with fail
    refine (ws_c b _ (opT k) _ S2.out.bk (by (try simp only [List.length_append, List.length_cons, List.length_nil]); omega) (by (try simp only [List.length_append, List.length_cons, List.length_nil]); omega)).mono ?_
    rintro e wc ⟨rfl, hbk, hfk⟩
    have S3 := Lib.hid (S2.out.step hbk hfk)
    clear hbk hfk S2 c0 c1 c2 c3 c4
    obtain ⟨c0, c1, c2, c3, c4⟩ := cells5 S3.out.box
    go_wp2_with fail
    refine (operand_c 0 _ _ _ _ _ _ _ _ _ _ _ _ _ _ _ _ (by omega) (S3.out.cell HK00.out hgb) (S3.out.cell HK01.out hgb) (S3.out.cell HK02.out hgb) (S3.out.cell HK03.out hgb) (S3.out.cell HK04.out hgb)).mono ?_
    rintro e wd ⟨rfl, hf⟩
    have S4 := Lib.hid (S3.out.still hf)
    clear hf S3 c0 c1 c2 c3 c4
    obtain ⟨c0, c1, c2, c3, c4⟩ := cells5 S4.out.box
    go_wp2_with (go_at_call 39; refine (ND0 _).mono ?_; rintro e w' ⟨rfl, rfl⟩)
    refine (IH0 _ b HV.out hb _ _ _ _ (by omega) (by omega) S4.out.foot (S4.out.tr HT0.out) S4.out.bk (by (try simp only [List.length_append, List.length_cons, List.length_nil]); omega)).mono ?_
    rintro e we ⟨rfl, hbk, hfk⟩
    have S5 := Lib.hid (S4.out.step hbk hfk)
    clear hbk hfk S4 c0 c1 c2 c3 c4
    obtain ⟨c0, c1, c2, c3, c4⟩ := cells5 S5.out.box
    go_wp2_with fail
    refine (wb_c b _ 41 _ S5.out.bk (by (try simp only [List.length_append, List.length_cons, List.length_nil]); omega)).mono ?_
    rintro e wz ⟨rfl, hbk, hfk⟩
    have SZ := Lib.hid (S5.out.step hbk hfk)
    clear hbk hfk
    go_wp2_with fail
    go_end0
    exact ⟨rfl, by have := SZ.out.bk; simpa only [List.append_assoc, List.cons_append, List.nil_append] using this, SZ.out.fk⟩
  · rw [wrapT, if_neg hls]
    go_enter Tryd.func24, Tryd.ntmps24
    go_upto_region 2 with (go_at_call 37; refine (LV _).mono ?_; rintro e w' ⟨rfl, rfl⟩)
    generalize w.alloc (.cells #[.int .i64 k, .int .i64 0, .string (mk []), .slice (some ⟨g, off, none⟩) 1 c, .int .i64 p] 24) = W1 at *
    have S1 := S0
    clear S0
    obtain ⟨c0, c1, c2, c3, c4⟩ := cells5 S1.out.box
    go_wp2_with fail
    refine (WD _ (S1.out.vars HV.out)).mono ?_
    rintro e wa ⟨rfl, hf⟩
    have S2 := Lib.hid (S1.out.still hf)
    clear hf S1 c0 c1 c2 c3 c4
    obtain ⟨c0, c1, c2, c3, c4⟩ := cells5 S2.out.box
    go_wp2_with fail
    refine (ws_c b _ (opT k) _ S2.out.bk (by (try simp only [List.length_append, List.length_cons, List.length_nil]); omega) (by (try simp only [List.length_append, List.length_cons, List.length_nil]); omega)).mono ?_
    rintro e wc ⟨rfl, hbk, hfk⟩
    have S3 := Lib.hid (S2.out.step hbk hfk)
    clear hbk hfk S2 c0 c1 c2 c3 c4
    obtain ⟨c0, c1, c2, c3, c4⟩ := cells5 S3.out.box
    go_wp2_with fail
    refine (operand_c 0 _ _ _ _ _ _ _ _ _ _ _ _ _ _ _ _ (by omega) (S3.out.cell HK00.out hgb) (S3.out.cell HK01.out hgb) (S3.out.cell HK02.out hgb) (S3.out.cell HK03.out hgb) (S3.out.cell HK04.out hgb)).mono ?_
    rintro e wd ⟨rfl, hf⟩
    have S4 := Lib.hid (S3.out.still hf)
    clear hf S3 c0 c1 c2 c3 c4
    obtain ⟨c0, c1, c2, c3, c4⟩ := cells5 S4.out.box
    go_wp2_with (go_at_call 39; refine (ND0 _).mono ?_; rintro e w' ⟨rfl, rfl⟩)
    refine (IH0 _ b HV.out hb _ _ _ _ (by omega) (by omega) S4.out.foot (S4.out.tr HT0.out) S4.out.bk (by (try simp only [List.length_append, List.length_cons, List.length_nil]); omega)).mono ?_
    rintro e we ⟨rfl, hbk, hfk⟩
    have S5 := Lib.hid (S4.out.step hbk hfk)
    clear hbk hfk S4 c0 c1 c2 c3 c4
    obtain ⟨c0, c1, c2, c3, c4⟩ := cells5 S5.out.box
    go_wp2_with fail
    go_end0
    exact ⟨rfl, by have := S5.out.bk; simpa only [List.append_assoc, List.cons_append, List.nil_append] using this, S5.out.fk⟩

set_option maxHeartbeats 4000000 in
set_option maxRecDepth 100000 in
theorem write_bin (k p : Int) (x y : Ex) (hk : 7 ≤ k ∧ k ≤ 19) (hx : Ok x) (hy : Ok y) (IH0 : WrC x) (IH1 : WrC y) : WrC (.node k 0 [] [x, y] p) := by
  intro W0 b hv hb least l v w hl1 hl7 hf htr hbk hlen
  have hok := Ok.bin k x y p hk hx hy
  obtain ⟨a, c, rfl, hc1, hc2, hkid⟩ := htr.open
  have hkind := hok.kind
  have htl := hok.textlen
  simp only [kind_node, sizeX, textX, List.length_cons, List.length_nil, Nat.zero_add, List.length_append] at hkind htl hlen hc1 hkid htr ⊢
  obtain ⟨g, off, a0, a1, a2, a3, a4, rfl, ⟨x0, x1, x2, x3, x4⟩, ht0⟩ := hkid 0 _ rfl
  obtain ⟨k0, n0, s0, q0, m0, r0, p0, hv0⟩ := ht0.five
  simp only [Value.agg.injEq, Array.mk.injEq, List.cons.injEq, and_true] at hv0
  obtain ⟨rfl, rfl, rfl, rfl, rfl⟩ := hv0
  have hgb : g < b := (htr.blk _ rfl).1
  have HK00 := Lib.hid x0
  have HK01 := Lib.hid x1
  have HK02 := Lib.hid x2
  have HK03 := Lib.hid x3
  have HK04 := Lib.hid x4
  have HT0 := Lib.hid ht0
  have LV := fun W => xlevel_c k W
  have WD := fun W hW => word_c k 0 p [] (some ⟨g, off, none⟩) 2 c W hW (by decide) (by decide) (by decide)
  have S0 := Lib.hid (WS.start hf hbk hb #[.int .i64 k, .int .i64 0, .string (mk []), .slice (some ⟨g, off, none⟩) 2 c, .int .i64 p])
  obtain ⟨c0, c1, c2, c3, c4⟩ := cells5 S0.out.box
  have HV := Lib.hid hv
  obtain ⟨g', off', b0, b1, b2, b3, b4, hg', ⟨y0, y1, y2, y3, y4⟩, ht1⟩ := hkid 1 _ rfl
  obtain ⟨rfl, rfl⟩ : g = g' ∧ off = off' := by simpa using hg'
  obtain ⟨k1, n1, s1, q1, m1, r1, p1, hv1⟩ := ht1.five
  simp only [Value.agg.injEq, Array.mk.injEq, List.cons.injEq, and_true] at hv1
  obtain ⟨rfl, rfl, rfl, rfl, rfl⟩ := hv1
  have HK10 := Lib.hid y0
  have HK11 := Lib.hid y1
  have HK12 := Lib.hid y2
  have HK13 := Lib.hid y3
  have HK14 := Lib.hid y4
  have HT1 := Lib.hid ht1
  have hlv := lev_bin hk
  have hw := wordX_ok (k := k) (n := 0) (s := []) (by omega)
  have hwd : wordD k 0 [] = opT k := by unfold wordD; rw [if_neg (by omega), if_neg (by omega), if_neg (by omega), if_neg (by omega)]
  rw [hw, hwd] at WD
  have ND0 := fun W => needed_c (lev k) 0 W (by omega) (by omega)
  have ND1 := fun W => needed_c (lev k) 1 W (by omega) (by omega)
  have hla : (if lev k = 6 then (6 : Int) else if lev k = 3 then 4 else lev k + 0) = leftA k := by unfold leftA; rw [if_neg (by omega), Int.add_zero]
  have hlr : (if lev k = 6 then (6 : Int) else if lev k = 3 then 4 else lev k + 1) = lev k + 1 := by rw [if_neg (by omega)]; split <;> omega
  rw [hla] at ND0
  rw [hlr] at ND1
  have hla2 : 1 ≤ leftA k ∧ leftA k ≤ 5 := by unfold leftA; split <;> omega
  have ho := op_len k
  have HO : Hid (⟨#[32]⟩ ++ mk (opT k) ++ ⟨#[32]⟩ = mk ([32] ++ opT k ++ [32])) := Lib.hid (eq_mk (by rw [bs_append, bs_append]; rfl))
  have hz1 : ¬ 9223372036854775807 < 1 + (mk (opT k)).size := by rw [mk_size]; omega
  have hz2 : ¬ 9223372036854775807 < 1 + (mk (opT k)).size + 1 := by rw [mk_size]; omega
  have e7 : (lev k == 7) = false := by rw [beq_eq_false_iff_ne]; omega
  have e6 : (lev k == 6) = false := by rw [beq_eq_false_iff_ne]; omega
  have hw1 := wrap_len (lev x.kind) (leftA k) (textX x)
  have hw2 := wrap_len (lev y.kind) (lev k + 1) (textX y)
  have htx := hx.textlen
  have hty := hy.textlen
  clear hf htr hbk hv hok hkid hw hwd x0 x1 x2 x3 x4 ht0 y0 y1 y2 y3 y4 ht1 hla hlr hg'
  by_cases hls : lev k < least
  · rw [wrapT, if_pos hls]
    go_enter Tryd.func24, Tryd.ntmps24
    go_upto_region 2 with (go_at_call 37; refine (LV _).mono ?_; rintro e w' ⟨rfl, rfl⟩)
    generalize w.alloc (.cells #[.int .i64 k, .int .i64 0, .string (mk []), .slice (some ⟨g, off, none⟩) 2 c, .int .i64 p] 24) = W1 at *
    go_wp2_with fail
    refine (wb_c b l 40 _ S0.out.bk (by omega)).mono ?_
    rintro e w1 ⟨rfl, hbk, hfk⟩
    have S1 := Lib.hid (S0.out.step hbk hfk)
    clear hbk hfk S0
    obtain ⟨c0, c1, c2, c3, c4⟩ := cells5 S1.out.box
    go_wp2_with fail
    refine (operand_c 0 _ _ _ _ _ _ _ _ _ _ _ _ _ _ _ _ (by omega) (S1.out.cell HK00.out hgb) (S1.out.cell HK01.out hgb) (S1.out.cell HK02.out hgb) (S1.out.cell HK03.out hgb) (S1.out.cell HK04.out hgb)).mono ?_
    rintro e wa ⟨rfl, hf⟩
    have S2 := Lib.hid (S1.out.still hf)
    clear hf S1 c0 c1 c2 c3 c4
    obtain ⟨c0, c1, c2, c3, c4⟩ := cells5 S2.out.box
    go_wp2_with (go_at_call 39; refine (ND0 _).mono ?_; rintro e w' ⟨rfl, rfl⟩)
    refine (IH0 _ b HV.out hb _ _ _ _ (by omega) (by omega) S2.out.foot (S2.out.tr HT0.out) S2.out.bk (by (try simp only [List.length_append, List.length_cons, List.length_nil]); omega)).mono ?_
    rintro e wc ⟨rfl, hbk, hfk⟩
    have S3 := Lib.hid (S2.out.step hbk hfk)
    clear hbk hfk S2 c0 c1 c2 c3 c4
    obtain ⟨c0, c1, c2, c3, c4⟩ := cells5 S3.out.box
    go_wp2_with fail
    refine (WD _ (S3.out.vars HV.out)).mono ?_
    rintro e wd ⟨rfl, hf⟩
    have S4 := Lib.hid (S3.out.still hf)
    clear hf S3 c0 c1 c2 c3 c4
    obtain ⟨c0, c1, c2, c3, c4⟩ := cells5 S4.out.box
    go_wp2_with fail
    refine (ws_c b _ ([32] ++ opT k ++ [32]) _ S4.out.bk (by (try simp only [List.length_append, List.length_cons, List.length_nil]); omega) (by (try simp only [List.length_append, List.length_cons, List.length_nil]); omega)).mono ?_
    rintro e we ⟨rfl, hbk, hfk⟩
    have S5 := Lib.hid (S4.out.step hbk hfk)
    clear hbk hfk S4 c0 c1 c2 c3 c4
    obtain ⟨c0, c1, c2, c3, c4⟩ := cells5 S5.out.box
    go_wp2_with fail
    refine (operand_c 1 _ _ _ _ _ _ _ _ _ _ _ _ _ _ _ _ (by omega) (S5.out.cell HK10.out hgb) (S5.out.cell HK11.out hgb) (S5.out.cell HK12.out hgb) (S5.out.cell HK13.out hgb) (S5.out.cell HK14.out hgb)).mono ?_
    rintro e wf ⟨rfl, hf⟩
    have S6 := Lib.hid (S5.out.still hf)
    clear hf S5 c0 c1 c2 c3 c4
    obtain ⟨c0, c1, c2, c3, c4⟩ := cells5 S6.out.box
    go_wp2_with (go_at_call 39; refine (ND1 _).mono ?_; rintro e w' ⟨rfl, rfl⟩)
    refine (IH1 _ b HV.out hb _ _ _ _ (by omega) (by omega) S6.out.foot (S6.out.tr HT1.out) S6.out.bk (by (try simp only [List.length_append, List.length_cons, List.length_nil]); omega)).mono ?_
    rintro e wg ⟨rfl, hbk, hfk⟩
    have S7 := Lib.hid (S6.out.step hbk hfk)
    clear hbk hfk S6 c0 c1 c2 c3 c4
    obtain ⟨c0, c1, c2, c3, c4⟩ := cells5 S7.out.box
    go_wp2_with fail
    refine (wb_c b _ 41 _ S7.out.bk (by (try simp only [List.length_append, List.length_cons, List.length_nil]); omega)).mono ?_
    rintro e wz ⟨rfl, hbk, hfk⟩
    have SZ := Lib.hid (S7.out.step hbk hfk)
    clear hbk hfk
    go_wp2_with fail
    go_end0
    exact ⟨rfl, by have := SZ.out.bk; simpa only [List.append_assoc, List.cons_append, List.nil_append] using this, SZ.out.fk⟩
  · rw [wrapT, if_neg hls]
    go_enter Tryd.func24, Tryd.ntmps24
    go_upto_region 2 with (go_at_call 37; refine (LV _).mono ?_; rintro e w' ⟨rfl, rfl⟩)
    generalize w.alloc (.cells #[.int .i64 k, .int .i64 0, .string (mk []), .slice (some ⟨g, off, none⟩) 2 c, .int .i64 p] 24) = W1 at *
    have S1 := S0
    clear S0
    obtain ⟨c0, c1, c2, c3, c4⟩ := cells5 S1.out.box
    go_wp2_with fail
    refine (operand_c 0 _ _ _ _ _ _ _ _ _ _ _ _ _ _ _ _ (by omega) (S1.out.cell HK00.out hgb) (S1.out.cell HK01.out hgb) (S1.out.cell HK02.out hgb) (S1.out.cell HK03.out hgb) (S1.out.cell HK04.out hgb)).mono ?_
    rintro e wa ⟨rfl, hf⟩
    have S2 := Lib.hid (S1.out.still hf)
    clear hf S1 c0 c1 c2 c3 c4
    obtain ⟨c0, c1, c2, c3, c4⟩ := cells5 S2.out.box
    go_wp2_with (go_at_call 39; refine (ND0 _).mono ?_; rintro e w' ⟨rfl, rfl⟩)
    refine (IH0 _ b HV.out hb _ _ _ _ (by omega) (by omega) S2.out.foot (S2.out.tr HT0.out) S2.out.bk (by (try simp only [List.length_append, List.length_cons, List.length_nil]); omega)).mono ?_
    rintro e wc ⟨rfl, hbk, hfk⟩
    have S3 := Lib.hid (S2.out.step hbk hfk)
    clear hbk hfk S2 c0 c1 c2 c3 c4
    obtain ⟨c0, c1, c2, c3, c4⟩ := cells5 S3.out.box
    go_wp2_with fail
    refine (WD _ (S3.out.vars HV.out)).mono ?_
    rintro e wd ⟨rfl, hf⟩
    have S4 := Lib.hid (S3.out.still hf)
    clear hf S3 c0 c1 c2 c3 c4
    obtain ⟨c0, c1, c2, c3, c4⟩ := cells5 S4.out.box
    go_wp2_with fail
    refine (ws_c b _ ([32] ++ opT k ++ [32]) _ S4.out.bk (by (try simp only [List.length_append, List.length_cons, List.length_nil]); omega) (by (try simp only [List.length_append, List.length_cons, List.length_nil]); omega)).mono ?_
    rintro e we ⟨rfl, hbk, hfk⟩
    have S5 := Lib.hid (S4.out.step hbk hfk)
    clear hbk hfk S4 c0 c1 c2 c3 c4
    obtain ⟨c0, c1, c2, c3, c4⟩ := cells5 S5.out.box
    go_wp2_with fail
    refine (operand_c 1 _ _ _ _ _ _ _ _ _ _ _ _ _ _ _ _ (by omega) (S5.out.cell HK10.out hgb) (S5.out.cell HK11.out hgb) (S5.out.cell HK12.out hgb) (S5.out.cell HK13.out hgb) (S5.out.cell HK14.out hgb)).mono ?_
    rintro e wf ⟨rfl, hf⟩
    have S6 := Lib.hid (S5.out.still hf)
    clear hf S5 c0 c1 c2 c3 c4
    obtain ⟨c0, c1, c2, c3, c4⟩ := cells5 S6.out.box
    go_wp2_with (go_at_call 39; refine (ND1 _).mono ?_; rintro e w' ⟨rfl, rfl⟩)
    refine (IH1 _ b HV.out hb _ _ _ _ (by omega) (by omega) S6.out.foot (S6.out.tr HT1.out) S6.out.bk (by (try simp only [List.length_append, List.length_cons, List.length_nil]); omega)).mono ?_
    rintro e wg ⟨rfl, hbk, hfk⟩
    have S7 := Lib.hid (S6.out.step hbk hfk)
    clear hbk hfk S6 c0 c1 c2 c3 c4
    obtain ⟨c0, c1, c2, c3, c4⟩ := cells5 S7.out.box
    go_wp2_with fail
    go_end0
    exact ⟨rfl, by have := S7.out.bk; simpa only [List.append_assoc, List.cons_append, List.nil_append] using this, S7.out.fk⟩

theorem write_c {x : Ex} (h : Ok x) : WrC x := by
  induction h with
  | num n p h0 h1 => exact write_leaf 1 n p [] (.num n p h0 h1) rfl (by omega) (by decide)
  | var s p h => exact write_leaf 2 0 p s (.var s p h) rfl (by decide) (ident_len h)
  | arg p => exact write_leaf 3 0 p [] (.arg p) rfl (by decide) (by decide)
  | inn s p h => exact write_leaf 4 0 p s (.inn s p h) rfl (by decide) (ident_len h)
  | un k a p h ha ih => exact write_un k p a h ha ih
  | bin k a b p h ha hb ia ib => exact write_bin k p a b h ha hb ia ib
set_option maxHeartbeats 1000000 in
theorem xprint_c {x : Ex} (hx : Ok x) (P : Nat → Prop) (v : Value) (w : World) (hv : Vars w) (ht : Tr w P v x) (hz : sizeX x ≤ 1000000) :
    Calls Tryd.prog 13 #[v] w fun e w' => e = .returned (.string (mk (textX x))) ∧ Foot (fun _ => False) w w' := by
  obtain ⟨k, n, s, a, m, c, p, rfl⟩ := ht.five
  have hf0 := (Foot.refl (fun _ => False) w).alloc (.cells #[.int .i64 k, .int .i64 n, .string s, .slice a m c, .int .i64 p] 24)
  have hA := At.new w 24 #[.int .i64 k, .int .i64 n, .string s, .slice a m c, .int .i64 p]
  have hsz := size_alloc w (.cells #[.int .i64 k, .int .i64 n, .string s, .slice a m c, .int .i64 p] 24)
  have ht1 := ht.still hf0
  have hv1 := hv.keep hf0
  generalize hW : w.alloc (.cells #[.int .i64 k, .int .i64 n, .string s, .slice a m c, .int .i64 p] 24) = W1 at *
  have hf1 := (Foot.refl (fun _ => False) W1).alloc (.cells #[.pointer none, .slice none 0 0] 60)
  have hbk : BK _ W1.heap.size [] := Go.Lib.IsBuilderF.of (Go.Lib.fresh_isBuilder 60 5 W1)
  have hA2 := hA.alloc (.cells #[.pointer none, .slice none 0 0] 60)
  have WR := write_c hx W1 W1.heap.size hv1 (Nat.le_refl _) 1 [] _ _ (by omega) (by omega) (hf1.mono fun _ _ h => h.elim) ((ht1.weak (P' := fun k => k < W1.heap.size) (fun k hk _ => hk)).still hf1) hbk (by rw [List.length_nil]; omega)
  rw [wrapT, if_neg (by have := lev_range x.kind; omega), List.nil_append] at WR
  obtain ⟨c0, c1, c2, c3, c4⟩ := cells5 hA2
  have HF := Lib.hid (hf0.trans hf1 fun _ _ h => h)
  rw [hsz] at WR hbk
  clear hf0 hA ht1 hv1 hf1 hbk hA2 ht hv
  go_enter Tryd.func13, Tryd.ntmps13
  go_upto_region 2 with fail
  generalize W1.alloc (.cells #[.pointer none, .slice none 0 0] 60) = W2 at *
  go_wp2_with fail
  refine WR.mono ?_
  rintro e w1 ⟨rfl, hbk, hfk⟩
  have HF2 := Lib.hid (HF.out.trans hfk.foot fun k hk h => by omega)
  clear hfk WR
  go_wp2_with fail
  refine (bst_c _ _ _ hbk).mono ?_
  rintro e w2 ⟨rfl, hfk⟩
  have HF3 := Lib.hid (HF2.out.trans hfk.foot fun k hk h => by omega)
  clear hfk hbk HF HF2
  go_wp2_with fail
  go_ret
  exact ⟨rfl, HF3.out⟩
end Go.Proofs.YtdibkgjldmepcaaDoor.Xp
