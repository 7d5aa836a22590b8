/- expr.fits, Right. -/
import Derived.Test.YtdibkgjldmepcaaDoorPr
import Derived.Deep.RegionWith
import Derived.Deep.Cut
import Derived.Deep.DeepCutAuto
import Derived.Deep.CutBlock
import Derived.Deep.LoopGhost
import Derived.StillTailTactics
namespace Go.Proofs.YtdibkgjldmepcaaDoor.Xp
open Go.RowKit Mem Lex Gen
set_option linter.unusedVariables false
set_option linter.unusedSimpArgs false

mutual
def nodes : Ex → Nat
  | .node _ _ _ kids _ => 1 + nodesL kids
def nodesL : List Ex → Nat
  | [] => 0
  | x :: l => nodes x + nodesL l
end
def sgnN (k : Int) : Nat := if lev k = 6 then 1 else 0
def needI (lv : Int) (i : Nat) : Int := if lv = 6 then 6 else if lv = 3 then 4 else lv + i
mutual
def fitB : Ex → Int → Nat → Bool
  | .node k n s kids _, least, o => shapeB k n s kids.length && decide (o + brk (lev k) least + sgnN k ≤ 12) && fitL kids (lev k) 0 (o + brk (lev k) least + sgnN k)
def fitL : List Ex → Int → Nat → Nat → Bool
  | [], _, _, _ => true
  | x :: l, lv, i, o => fitB x (needI lv i) o && fitL l lv (i + 1) o
end
/-- Of an input: numbers of 64 bits, short names. -/
inductive Rng : Ex → Prop
  | mk (k n p : Int) (s : Bytes) (kids : List Ex) (h0 : -9223372036854775808 ≤ n) (h1 : n ≤ 9223372036854775807) (hs : s.length ≤ 1000000) (hk : ∀ x ∈ kids, Rng x) : Rng (.node k n s kids p)
theorem word_len {k n : Int} {s : Bytes} {m : Nat} (h : shapeB k n s m = true) (h0 : -9223372036854775808 ≤ n) (h1 : n ≤ 9223372036854775807) : (wordX k n s).length ≤ 28 := by
  unfold shapeB at h
  split at h
  · cases h
  · unfold wordX
    split at h
    · rename_i g
      simp only [Bool.and_eq_true, decide_eq_true_eq] at h
      rw [if_pos g]
      have h2 := decS_size (n := n) (by omega) h1
      have h3 : (bs (decS n)).length = (decS n).size := bs_len _
      have : (bs (decS n)) = decT n := rfl
      rw [← this]; omega
    · split at h
      · rename_i g1 g
        simp only [Bool.and_eq_true, decide_eq_true_eq] at h
        have := ident_len (s := s) h.2
        rw [if_neg g1]
        repeat' split
        all_goals simp <;> omega
      · rename_i g1 g
        rw [if_neg g1, if_neg (by omega)]
        repeat' split
        all_goals first | (simp; done) | omega | skip
        unfold sgT
        split
        · have := op_len k; omega
        · simp
theorem shape_kids {k n : Int} {s : Bytes} {m : Nat} (h : shapeB k n s m = true) : (m : Int) = opnds (lev k) := by
  unfold shapeB at h
  split at h
  · cases h
  · rename_i g; omega
def FitC (x : Ex) : Prop := ∀ (W0 : World), Vars W0 → ∀ (R : Nat), W0.heap.size ≤ R → ∀ (P : Nat → Prop) (least : Int) (o : Nat) (r : Int) (v : Value) (w : World), 1 ≤ least → least ≤ 6 → o ≤ 12 → Foot (fun k => W0.heap.size ≤ k) W0 w → At w R 3 #[.int .i64 r] → Tr w P v x → ¬ P R →
  30 * (nodes x : Int) ≤ r → r ≤ 1000000 → Calls Tryd.prog 21 #[v, .int .i64 least, .int .i64 o, .pointer (some ⟨R, 0, none⟩)] w fun e w' => ∃ r' : Int, r - 30 * (nodes x : Int) ≤ r' ∧ r' ≤ r ∧ e = .returned (.bool (fitB x least o)) ∧ At w' R 3 #[.int .i64 r'] ∧ Foot (fun k => k = R) w w'
structure FS (W0 w wi : World) (R : Nat) (cs : Array Value) (r : Int) : Prop where
  box : At wi w.heap.size 24 cs
  room : At wi R 3 #[.int .i64 r]
  foot : Foot (fun k => k = R) w wi
  f0 : Foot (fun k => W0.heap.size ≤ k) W0 wi
  lt : R < w.heap.size
  hR : W0.heap.size ≤ R
section
variable {W0 w wi wj : World} {R : Nat} {cs : Array Value} {r : Int}
theorem FS.still (h : FS W0 w wi R cs r) (hf : Foot (fun _ => False) wi wj) : FS W0 w wj R cs r :=
  ⟨h.box.keep hf id, h.room.keep hf id, h.foot.trans hf fun _ _ h => h.elim, h.f0.trans hf fun _ _ h => h.elim, h.lt, h.hR⟩
theorem FS.step (h : FS W0 w wi R cs r) {r' : Int} (hr : At wj R 3 #[.int .i64 r']) (hf : Foot (fun k => k = R) wi wj) : FS W0 w wj R cs r' :=
  ⟨h.box.keep hf (by have := h.lt; omega), hr, h.foot.trans hf fun _ _ h => h, h.f0.trans hf fun k _ (hk : k = R) => by rw [hk]; exact h.hR, h.lt, h.hR⟩
theorem FS.set (h : FS W0 w wi R cs r) (r' : Int) : FS W0 w (wi.setCell ⟨R, 0, none⟩ (.int .i64 r')) R cs r' := h.step (h.room.set 0 _) ((Foot.refl (fun k => k = R) wi).setCell (p := ⟨R, 0, none⟩) (fun _ => rfl) _)
end
theorem nodes_node (k n p : Int) (s : Bytes) (kids : List Ex) : nodes (.node k n s kids p) = 1 + nodesL kids := by rw [nodes]
theorem nodesL_drop {kids : List Ex} {i : Nat} {x : Ex} (h : kids[i]? = some x) : nodesL (kids.drop i) = nodes x + nodesL (kids.drop (i + 1)) := by
  have hi := (List.getElem?_eq_some_iff.1 h)
  obtain ⟨h1, h2⟩ := hi
  rw [List.drop_eq_getElem_cons h1, h2, nodesL]
theorem fitL_drop {kids : List Ex} {i : Nat} {x : Ex} (h : kids[i]? = some x) (lv : Int) (o : Nat) : fitL (kids.drop i) lv i o = (fitB x (needI lv i) o && fitL (kids.drop (i + 1)) lv (i + 1) o) := by
  obtain ⟨h1, h2⟩ := List.getElem?_eq_some_iff.1 h
  rw [List.drop_eq_getElem_cons h1, h2, fitL]

/-- Of some levels alone. -/
def FitG (C : Int → Int → Prop) (x : Ex) : Prop := ∀ (W0 : World), Vars W0 → ∀ (R : Nat), W0.heap.size ≤ R → ∀ (P : Nat → Prop) (least : Int) (o : Nat) (r : Int) (v : Value) (w : World), C (lev x.kind) least → 1 ≤ least → least ≤ 6 → o ≤ 12 → Foot (fun k => W0.heap.size ≤ k) W0 w → At w R 3 #[.int .i64 r] → Tr w P v x → ¬ P R →
  30 * (nodes x : Int) ≤ r → r ≤ 1000000 → Calls Tryd.prog 21 #[v, .int .i64 least, .int .i64 o, .pointer (some ⟨R, 0, none⟩)] w fun e w' => ∃ r' : Int, r - 30 * (nodes x : Int) ≤ r' ∧ r' ≤ r ∧ e = .returned (.bool (fitB x least o)) ∧ At w' R 3 #[.int .i64 r'] ∧ Foot (fun k => k = R) w w'
end Go.Proofs.YtdibkgjldmepcaaDoor.Xp

namespace Go.Proofs.YtdibkgjldmepcaaDoor.Xp
open Go.RowKit Mem Lex Gen
set_option linter.unusedVariables false
set_option linter.unusedSimpArgs false

set_option maxHeartbeats 8000000 in
set_option maxRecDepth 100000 in
theorem fits_A (k n p : Int) (s : Bytes) (kids : List Ex) (h0 : -9223372036854775808 ≤ n) (h1 : n ≤ 9223372036854775807) (hs : s.length ≤ 1000000) (ih : ∀ x ∈ kids, FitC x) : FitG (fun l least => l < least) (.node k n s kids p) := by
  intro W0 hV R hR P least o r v w hC hl1 hl6 ho hf hroom htr hPR hr hr2
  have HC := Lib.hid hC
  clear hC
  obtain ⟨a, c, rfl, hc1, hc2, hkid⟩ := htr.open
  have hblk := htr.blk
  have hlt := hroom.lt
  have SH := fun W hW => shaped_c k n p s a kids.length c W hW h0 h1 hs ⟨hc1, hc2⟩
  have WD := fun W hW => word_c k n p s a kids.length c W hW h0 h1 hs
  have LV := fun W => xlevel_c k W
  have S0 : FS W0 w (w.alloc (.cells #[.int .i64 k, .int .i64 n, .string (mk s), .slice a kids.length c, .int .i64 p] 24)) R #[.int .i64 k, .int .i64 n, .string (mk s), .slice a kids.length c, .int .i64 p] r := ⟨At.new w _ _, hroom.alloc _, (Foot.refl _ w).alloc _, hf.alloc _, hlt, hR⟩
  have S0 := Lib.hid S0
  have HV := Lib.hid hV
  have HK := Lib.hid hkid
  have HB := Lib.hid hblk
  have HIH := Lib.hid ih
  have HWL := fun (h : shapeB k n s kids.length = true) => word_len h h0 h1
  have HSK := fun (h : shapeB k n s kids.length = true) => shape_kids h
  rw [fitB]
  rw [nodes_node] at hr
  obtain ⟨b0, b1, b2, b3, b4⟩ := cells5 S0.out.box
  have hV0 := Vars.keepB hV S0.out.f0
  clear hkid hblk hV hf hroom htr ih
  cases hsh : shapeB k n s kids.length with
  | false =>
    rw [hsh] at SH
    simp only [Bool.false_and]
    go_enter Tryd.func21, Tryd.ntmps21
    go_upto_region 1 with fail
    generalize w.alloc (.cells #[.int .i64 k, .int .i64 n, .string (mk s), .slice a kids.length c, .int .i64 p] 24) = W1 at *
    go_wp2_with fail
    refine (SH _ hV0).mono ?_
    rintro e w1 ⟨rfl, hf⟩
    have S1 := Lib.hid (S0.out.still hf)
    clear hf
    go_wp2_with fail
    go_ret
    exact ⟨r, by rw [nodes_node]; omega, by omega, rfl, S1.out.room, S1.out.foot⟩
  | true =>
    rw [hsh] at SH
    have hwl := HWL hsh
    have hkl := HSK hsh
    clear HWL HSK
    simp only [Bool.true_and]
    have hlr := lev_range k
    have hlen2 : kids.length ≤ 2 := by unfold opnds at hkl; split at hkl <;> (try split at hkl) <;> omega
    have HL7 := Lib.hid (show 1 ≤ kids.length → lev k ≤ 6 from fun h => by unfold opnds at hkl; split at hkl <;> (try split at hkl) <;> omega)
    have hwz : (mk (wordX k n s)).size = (wordX k n s).length := mk_size _
    generalize hwx : (wordX k n s).length = wl at *
    generalize mk (wordX k n s) = ws at *
    have hbk : lev k < least := HC.out
    have hbb : brk (lev k) least = 1 := by unfold brk; rw [if_pos hbk]
    have hs0 : sgnN k = 0 := by unfold sgnN; rw [if_neg (by omega)]
    rw [hbb, hs0]
    try simp only [Nat.add_zero]
    have e6 : (lev k == 6) = false := by rw [beq_eq_false_iff_ne]; omega
    have hw1 : IntKind.i64.wrap ((o : Int) + 1) = (o : Int) + 1 := by rw [IntKind.wrap_i64]; omega
    have hw2 : IntKind.i64.wrap (r - 2) = r - 2 := by rw [IntKind.wrap_i64]; omega
    go_enter Tryd.func21, Tryd.ntmps21
    go_upto_region 1 with fail
    generalize w.alloc (.cells #[.int .i64 k, .int .i64 n, .string (mk s), .slice a kids.length c, .int .i64 p] 24) = W1 at *
    go_wp2_with fail
    refine (SH _ hV0).mono ?_
    rintro e w1 ⟨rfl, hf⟩
    have S1 := Lib.hid (S0.out.still hf)
    clear hf S0 b0 b1 b2 b3 b4 SH
    obtain ⟨b0, b1, b2, b3, b4⟩ := cells5 S1.out.box
    have x0 : w1.cell? ⟨R, 0, none⟩ = some (.int .i64 r) := S1.out.room.cell 0
    have xf0 := S1.out.room.free 0
    go_upto_region 9 with (go_at_call 37; refine (LV _).mono ?_; rintro e wy ⟨rfl, rfl⟩)
    have S2 := Lib.hid (S1.out.set (r - 2))
    generalize wy.setCell ⟨R, 0, none⟩ (.int .i64 (r - 2)) = w2 at *
    clear S1 b0 b1 b2 b3 b4 x0 xf0
    obtain ⟨b0, b1, b2, b3, b4⟩ := cells5 S2.out.box
    have x0 : w2.cell? ⟨R, 0, none⟩ = some (.int .i64 (r - 2)) := S2.out.room.cell 0
    have SD := Lib.hid (S2.out.still ((Foot.refl (fun _ => False) w2).drew))
    have hwr : IntKind.i64.wrap ((r - 2) - (wl : Int)) = (r - 2) - (wl : Int) := by rw [IntKind.wrap_i64]; omega
    have hwi : IntKind.i64.wrap (wl : Int) = wl := by rw [IntKind.wrap_i64]; omega
    go_cut [38] from 32 to 39 (fun v wx => v = .int .i64 ((r - 2) - (wl : Int)) ∧ Hid (FS W0 w wx R #[.int .i64 k, .int .i64 n, .string (mk s), .slice a kids.length c, .int .i64 p] ((r - 2) - (wl : Int))))
    case first =>
      go_region_with (go_at_call 38; refine (WD _ (Vars.keepB HV.out SD.out.f0)).mono ?_; rintro e wk ⟨rfl, hf⟩; have SK := Lib.hid (SD.out.still hf); clear hf; have y0 : wk.cell? ⟨R, 0, none⟩ = some (.int .i64 (r - 2)) := SK.out.room.cell 0; have yf0 := SK.out.room.free 0; have SL := Lib.hid (SK.out.set ((r - 2) - (wl : Int))))
      all_goals go_wp2_with fail
      all_goals go_meet
      all_goals exact ⟨rfl, SL⟩
    case rest =>
      obtain ⟨rfl, S3⟩ := hcut
      clear S2 SD b0 b1 b2 b3 b4 x0 hwr hwi
      obtain ⟨b0, b1, b2, b3, b4⟩ := cells5 S3.out.box
      have x0 : wc.cell? ⟨R, 0, none⟩ = some (.int .i64 ((r - 2) - (wl : Int))) := S3.out.room.cell 0
      by_cases h12 : o + 1 ≤ 12
      · have h12a : ¬ (12 : Int) < (o + 1 : Nat) := by omega
        have h12b : ¬ (12 : Int) < (((o : Int) + 1 : Int)) := by omega
        have hpos : ¬ (r - 2) - (wl : Int) < 0 := by omega
        go_wp2_with fail
        have HLT := Lib.hid S3.out.lt
        go_loopw [51] (fun i wr => ∃ (j : Nat) (r' : Int), i = .int .i64 j ∧ j ≤ kids.length ∧ Hid (FS W0 w wr R #[.int .i64 k, .int .i64 n, .string (mk s), .slice a kids.length c, .int .i64 p] r') ∧ r - 30 * (1 + (nodesL kids : Int)) + 30 * (nodesL (kids.drop j) : Int) ≤ r' ∧ r' ≤ r ∧ Hid (fitL kids (lev k) 0 (o + 1) = fitL (kids.drop j) (lev k) j (o + 1))) (fun i _ => kids.length - (intOf i).toNat)
        case atStart => exact ⟨0, (r - 2) - (wl : Int), rfl, Nat.zero_le _, S3, by rw [List.drop_zero]; omega, by omega, Lib.hid (by rw [List.drop_zero])⟩
        case round =>
          obtain ⟨j, r', rfl, hjl, S4, hr3, hr4, HFL⟩ := hrel
          clear S3 b0 b1 b2 b3 b4 x0
          by_cases hj : j < kids.length
          · have hjI : (j : Int) < kids.length := by omega
            obtain ⟨x, hx⟩ : ∃ x, kids[j]? = some x := ⟨_, List.getElem?_eq_getElem hj⟩
            obtain ⟨g, off, u0, u1, u2, u3, u4, rfl, ⟨y0, y1, y2, y3, y4⟩, htk⟩ := HK.out j x hx
            have hgb := HB.out _ rfl
            obtain ⟨k1, n1, s1, a1, m1, c1, p1, hv1⟩ := htk.five
            simp only [Value.agg.injEq, Array.mk.injEq, List.cons.injEq, and_true] at hv1
            obtain ⟨rfl, rfl, rfl, rfl, rfl⟩ := hv1
            have hgR : g ≠ R := fun e => hPR (e ▸ hgb.1)
            have KP : ∀ {f : Nat} {u : Value}, w.cell? ⟨g, f, none⟩ = some u → wr.cell? ⟨g, f, none⟩ = some u := fun {f u} hc => by rw [S4.out.foot.cell (p := ⟨g, f, none⟩) hgb.2 hgR]; exact hc
            have z0 := KP y0
            have z1 := KP y1
            have z2 := KP y2
            have z3 := KP y3
            have z4 := KP y4
            obtain ⟨b0, b1, b2, b3, b4⟩ := cells5 S4.out.box
            have htr := (htk.keep S4.out.foot (fun q hq hp => hPR (hq ▸ hp))).still ((Foot.refl (fun _ => False) wr).alloc (.cells #[.int .i64 k1, .int .i64 n1, .string s1, .slice a1 m1 c1, .int .i64 p1] 24)) |>.still (Foot.refl (fun _ => False) _).drew
            have S5 := Lib.hid (S4.out.still ((Foot.refl (fun _ => False) wr).alloc (.cells #[.int .i64 k1, .int .i64 n1, .string s1, .slice a1 m1 c1, .int .i64 p1] 24)))
            have hA5 := At.new wr 24 #[.int .i64 k1, .int .i64 n1, .string s1, .slice a1 m1 c1, .int .i64 p1]
            have S6 := Lib.hid (S5.out.still ((Foot.refl (fun _ => False) _).drew))
            have hnd := nodesL_drop hx
            have hlvk : 1 ≤ lev k ∧ lev k ≤ 6 := ⟨hlr.1, HL7.out (by omega)⟩
            have ND : ∀ W, Calls Tryd.prog 39 #[.int .i64 (lev k), .int .i64 j] W fun e w' => e = .returned (.int .i64 (needI (lev k) j)) ∧ w' = W := fun W => needed_c (lev k) j W (by omega) (by omega)
            have hni : 1 ≤ needI (lev k) j ∧ needI (lev k) j ≤ 6 := by
              unfold needI
              split
              · omega
              · split
                · omega
                · have : lev k ≤ 5 := by omega
                  omega
            have FT := HIH.out x (List.mem_of_getElem? hx) W0 HV.out R hR P (needI (lev k) j) (o + 1) r' _ _ hni.1 hni.2 h12 S6.out.f0 S6.out.room htr hPR (by omega) (by omega)
            have hfd := fitL_drop hx (lev k) (o + 1)
            generalize needI (lev k) j = nq at FT hfd ND hni
            clear htr y0 y1 y2 y3 y4 htk KP hni
            go_upto_region 15 with fail
            generalize wr.alloc (.cells #[.int .i64 k1, .int .i64 n1, .string s1, .slice a1 m1 c1, .int .i64 p1] 24) = W4 at *
            obtain ⟨d0, d1, d2, d3, d4⟩ := cells5 hA5
            clear z0 z1 z2 z3 z4 b0 b1 b2 b3 b4 hA5
            go_still_tail 6, (by kernel_rfl)
            still_call (ND _)
            repeat still_step
            refine wpStill_nil ?_
            change wpList _ _ _ _ _ W4.drew
            go_wp2_with fail
            refine FT.mono ?_
            rintro e wf ⟨r2, ha1, ha2, rfl, hrm, hff⟩
            have S7 := Lib.hid (S6.out.step hrm hff)
            clear hrm hff S6 S5 FT
            cases hfb : fitB x nq (o + 1) with
            | false =>
              go_wp2_with fail
              go_ret
              exact ⟨r2, by rw [nodes_node]; omega, by omega, by show Ending.returned (.bool false) = _; first | (rw [decide_eq_true h12, Bool.true_and, HFL.out, hfd, hfb]; rfl) | (rw [HFL.out, hfd, hfb]; rfl) | (simp only [h12, decide_true, Bool.true_and, HFL.out, hfd, hfb, Bool.false_and]), S7.out.room, S7.out.foot⟩
            | true =>
              go_wp2_with fail
              go_roundw
              case rel => exact ⟨j + 1, r2, by go_num, by omega, S7, by omega, by omega, Lib.hid (by rw [HFL.out, hfd, hfb, Bool.true_and])⟩
              case measure => simp [intOf]; omega
          · obtain rfl : j = kids.length := by omega
            have hjI : ¬ (kids.length : Int) < kids.length := by omega
            go_wp2_with fail
            go_ret
            exact ⟨r', by rw [nodes_node]; omega, by omega, by show Ending.returned (.bool true) = _; first | rw [decide_eq_true h12, Bool.true_and, HFL.out, List.drop_length, fitL] | rw [HFL.out, List.drop_length, fitL], S4.out.room, S4.out.foot⟩
      · have h12a : (12 : Int) < (o + 1 : Nat) := by omega
        have h12b : (12 : Int) < (((o : Int) + 1 : Int)) := by omega
        go_wp2_with fail
        go_ret
        exact ⟨_, by rw [nodes_node]; omega, by omega, by show Ending.returned (.bool false) = _; first | rfl | rw [decide_eq_false h12, Bool.false_and], S3.out.room, S3.out.foot⟩
end Go.Proofs.YtdibkgjldmepcaaDoor.Xp

namespace Go.Proofs.YtdibkgjldmepcaaDoor.Xp
open Go.RowKit Mem Lex Gen
set_option linter.unusedVariables false
set_option linter.unusedSimpArgs false

set_option maxHeartbeats 8000000 in
set_option maxRecDepth 100000 in
theorem fits_B (k n p : Int) (s : Bytes) (kids : List Ex) (h0 : -9223372036854775808 ≤ n) (h1 : n ≤ 9223372036854775807) (hs : s.length ≤ 1000000) (ih : ∀ x ∈ kids, FitC x) : FitG (fun l least => ¬ l < least ∧ l = 6) (.node k n s kids p) := by
  intro W0 hV R hR P least o r v w hC hl1 hl6 ho hf hroom htr hPR hr hr2
  have HC := Lib.hid hC
  clear hC
  obtain ⟨a, c, rfl, hc1, hc2, hkid⟩ := htr.open
  have hblk := htr.blk
  have hlt := hroom.lt
  have SH := fun W hW => shaped_c k n p s a kids.length c W hW h0 h1 hs ⟨hc1, hc2⟩
  have WD := fun W hW => word_c k n p s a kids.length c W hW h0 h1 hs
  have LV := fun W => xlevel_c k W
  have S0 : FS W0 w (w.alloc (.cells #[.int .i64 k, .int .i64 n, .string (mk s), .slice a kids.length c, .int .i64 p] 24)) R #[.int .i64 k, .int .i64 n, .string (mk s), .slice a kids.length c, .int .i64 p] r := ⟨At.new w _ _, hroom.alloc _, (Foot.refl _ w).alloc _, hf.alloc _, hlt, hR⟩
  have S0 := Lib.hid S0
  have HV := Lib.hid hV
  have HK := Lib.hid hkid
  have HB := Lib.hid hblk
  have HIH := Lib.hid ih
  have HWL := fun (h : shapeB k n s kids.length = true) => word_len h h0 h1
  have HSK := fun (h : shapeB k n s kids.length = true) => shape_kids h
  rw [fitB]
  rw [nodes_node] at hr
  obtain ⟨b0, b1, b2, b3, b4⟩ := cells5 S0.out.box
  have hV0 := Vars.keepB hV S0.out.f0
  clear hkid hblk hV hf hroom htr ih
  cases hsh : shapeB k n s kids.length with
  | false =>
    rw [hsh] at SH
    simp only [Bool.false_and]
    go_enter Tryd.func21, Tryd.ntmps21
    go_upto_region 1 with fail
    generalize w.alloc (.cells #[.int .i64 k, .int .i64 n, .string (mk s), .slice a kids.length c, .int .i64 p] 24) = W1 at *
    go_wp2_with fail
    refine (SH _ hV0).mono ?_
    rintro e w1 ⟨rfl, hf⟩
    have S1 := Lib.hid (S0.out.still hf)
    clear hf
    go_wp2_with fail
    go_ret
    exact ⟨r, by rw [nodes_node]; omega, by omega, rfl, S1.out.room, S1.out.foot⟩
  | true =>
    rw [hsh] at SH
    have hwl := HWL hsh
    have hkl := HSK hsh
    clear HWL HSK
    simp only [Bool.true_and]
    have hlr := lev_range k
    have hlen2 : kids.length ≤ 2 := by unfold opnds at hkl; split at hkl <;> (try split at hkl) <;> omega
    have HL7 := Lib.hid (show 1 ≤ kids.length → lev k ≤ 6 from fun h => by unfold opnds at hkl; split at hkl <;> (try split at hkl) <;> omega)
    have hwz : (mk (wordX k n s)).size = (wordX k n s).length := mk_size _
    generalize hwx : (wordX k n s).length = wl at *
    generalize mk (wordX k n s) = ws at *
    have hbk : ¬ lev k < least := HC.out.1
    have hbb : brk (lev k) least = 0 := by unfold brk; rw [if_neg hbk]
    have hs0 : sgnN k = 1 := by unfold sgnN; rw [if_pos (show lev k = 6 from HC.out.2)]
    rw [hbb, hs0]
    try simp only [Nat.add_zero]
    have e6 : (lev k == 6) = true := by rw [show lev k = 6 from HC.out.2]; rfl
    have hw1 : IntKind.i64.wrap ((o : Int) + 1) = (o : Int) + 1 := by rw [IntKind.wrap_i64]; omega
    go_enter Tryd.func21, Tryd.ntmps21
    go_upto_region 1 with fail
    generalize w.alloc (.cells #[.int .i64 k, .int .i64 n, .string (mk s), .slice a kids.length c, .int .i64 p] 24) = W1 at *
    go_wp2_with fail
    refine (SH _ hV0).mono ?_
    rintro e w1 ⟨rfl, hf⟩
    have S1 := Lib.hid (S0.out.still hf)
    clear hf S0 b0 b1 b2 b3 b4 SH
    obtain ⟨b0, b1, b2, b3, b4⟩ := cells5 S1.out.box
    have x0 : w1.cell? ⟨R, 0, none⟩ = some (.int .i64 r) := S1.out.room.cell 0
    have xf0 := S1.out.room.free 0
    go_upto_region 9 with (go_at_call 37; refine (LV _).mono ?_; rintro e w2 ⟨rfl, rfl⟩)
    have S2 := S1
    clear S1 b0 b1 b2 b3 b4 x0 xf0
    obtain ⟨b0, b1, b2, b3, b4⟩ := cells5 S2.out.box
    have x0 : w2.cell? ⟨R, 0, none⟩ = some (.int .i64 r) := S2.out.room.cell 0
    have SD := Lib.hid (S2.out.still ((Foot.refl (fun _ => False) w2).drew))
    have hwr : IntKind.i64.wrap (r - (wl : Int)) = r - (wl : Int) := by rw [IntKind.wrap_i64]; omega
    have hwi : IntKind.i64.wrap (wl : Int) = wl := by rw [IntKind.wrap_i64]; omega
    go_cut [38] from 32 to 39 (fun v wx => v = .int .i64 (r - (wl : Int)) ∧ Hid (FS W0 w wx R #[.int .i64 k, .int .i64 n, .string (mk s), .slice a kids.length c, .int .i64 p] (r - (wl : Int))))
    case first =>
      go_region_with (go_at_call 38; refine (WD _ (Vars.keepB HV.out SD.out.f0)).mono ?_; rintro e wk ⟨rfl, hf⟩; have SK := Lib.hid (SD.out.still hf); clear hf; have y0 : wk.cell? ⟨R, 0, none⟩ = some (.int .i64 r) := SK.out.room.cell 0; have yf0 := SK.out.room.free 0; have SL := Lib.hid (SK.out.set (r - (wl : Int))))
      all_goals go_wp2_with fail
      all_goals go_meet
      all_goals exact ⟨rfl, SL⟩
    case rest =>
      obtain ⟨rfl, S3⟩ := hcut
      clear S2 SD b0 b1 b2 b3 b4 x0 hwr hwi
      obtain ⟨b0, b1, b2, b3, b4⟩ := cells5 S3.out.box
      have x0 : wc.cell? ⟨R, 0, none⟩ = some (.int .i64 (r - (wl : Int))) := S3.out.room.cell 0
      by_cases h12 : o + 1 ≤ 12
      · have h12a : ¬ (12 : Int) < (o + 1 : Nat) := by omega
        have h12b : ¬ (12 : Int) < (((o : Int) + 1 : Int)) := by omega
        have hpos : ¬ r - (wl : Int) < 0 := by omega
        go_wp2_with fail
        have HLT := Lib.hid S3.out.lt
        go_loopw [51] (fun i wr => ∃ (j : Nat) (r' : Int), i = .int .i64 j ∧ j ≤ kids.length ∧ Hid (FS W0 w wr R #[.int .i64 k, .int .i64 n, .string (mk s), .slice a kids.length c, .int .i64 p] r') ∧ r - 30 * (1 + (nodesL kids : Int)) + 30 * (nodesL (kids.drop j) : Int) ≤ r' ∧ r' ≤ r ∧ Hid (fitL kids (lev k) 0 (o + 1) = fitL (kids.drop j) (lev k) j (o + 1))) (fun i _ => kids.length - (intOf i).toNat)
        case atStart => exact ⟨0, r - (wl : Int), rfl, Nat.zero_le _, S3, by rw [List.drop_zero]; omega, by omega, Lib.hid (by rw [List.drop_zero])⟩
        case round =>
          obtain ⟨j, r', rfl, hjl, S4, hr3, hr4, HFL⟩ := hrel
          clear S3 b0 b1 b2 b3 b4 x0
          by_cases hj : j < kids.length
          · have hjI : (j : Int) < kids.length := by omega
            obtain ⟨x, hx⟩ : ∃ x, kids[j]? = some x := ⟨_, List.getElem?_eq_getElem hj⟩
            obtain ⟨g, off, u0, u1, u2, u3, u4, rfl, ⟨y0, y1, y2, y3, y4⟩, htk⟩ := HK.out j x hx
            have hgb := HB.out _ rfl
            obtain ⟨k1, n1, s1, a1, m1, c1, p1, hv1⟩ := htk.five
            simp only [Value.agg.injEq, Array.mk.injEq, List.cons.injEq, and_true] at hv1
            obtain ⟨rfl, rfl, rfl, rfl, rfl⟩ := hv1
            have hgR : g ≠ R := fun e => hPR (e ▸ hgb.1)
            have KP : ∀ {f : Nat} {u : Value}, w.cell? ⟨g, f, none⟩ = some u → wr.cell? ⟨g, f, none⟩ = some u := fun {f u} hc => by rw [S4.out.foot.cell (p := ⟨g, f, none⟩) hgb.2 hgR]; exact hc
            have z0 := KP y0
            have z1 := KP y1
            have z2 := KP y2
            have z3 := KP y3
            have z4 := KP y4
            obtain ⟨b0, b1, b2, b3, b4⟩ := cells5 S4.out.box
            have htr := (htk.keep S4.out.foot (fun q hq hp => hPR (hq ▸ hp))).still ((Foot.refl (fun _ => False) wr).alloc (.cells #[.int .i64 k1, .int .i64 n1, .string s1, .slice a1 m1 c1, .int .i64 p1] 24)) |>.still (Foot.refl (fun _ => False) _).drew
            have S5 := Lib.hid (S4.out.still ((Foot.refl (fun _ => False) wr).alloc (.cells #[.int .i64 k1, .int .i64 n1, .string s1, .slice a1 m1 c1, .int .i64 p1] 24)))
            have hA5 := At.new wr 24 #[.int .i64 k1, .int .i64 n1, .string s1, .slice a1 m1 c1, .int .i64 p1]
            have S6 := Lib.hid (S5.out.still ((Foot.refl (fun _ => False) _).drew))
            have hnd := nodesL_drop hx
            have hlvk : 1 ≤ lev k ∧ lev k ≤ 6 := ⟨hlr.1, HL7.out (by omega)⟩
            have ND : ∀ W, Calls Tryd.prog 39 #[.int .i64 (lev k), .int .i64 j] W fun e w' => e = .returned (.int .i64 (needI (lev k) j)) ∧ w' = W := fun W => needed_c (lev k) j W (by omega) (by omega)
            have hni : 1 ≤ needI (lev k) j ∧ needI (lev k) j ≤ 6 := by
              unfold needI
              split
              · omega
              · split
                · omega
                · have : lev k ≤ 5 := by omega
                  omega
            have FT := HIH.out x (List.mem_of_getElem? hx) W0 HV.out R hR P (needI (lev k) j) (o + 1) r' _ _ hni.1 hni.2 h12 S6.out.f0 S6.out.room htr hPR (by omega) (by omega)
            have hfd := fitL_drop hx (lev k) (o + 1)
            generalize needI (lev k) j = nq at FT hfd ND hni
            clear htr y0 y1 y2 y3 y4 htk KP hni
            go_upto_region 15 with fail
            generalize wr.alloc (.cells #[.int .i64 k1, .int .i64 n1, .string s1, .slice a1 m1 c1, .int .i64 p1] 24) = W4 at *
            obtain ⟨d0, d1, d2, d3, d4⟩ := cells5 hA5
            clear z0 z1 z2 z3 z4 b0 b1 b2 b3 b4 hA5
            go_still_tail 6, (by kernel_rfl)
            still_call (ND _)
            repeat still_step
            refine wpStill_nil ?_
            change wpList _ _ _ _ _ W4.drew
            go_wp2_with fail
            refine FT.mono ?_
            rintro e wf ⟨r2, ha1, ha2, rfl, hrm, hff⟩
            have S7 := Lib.hid (S6.out.step hrm hff)
            clear hrm hff S6 S5 FT
            cases hfb : fitB x nq (o + 1) with
            | false =>
              go_wp2_with fail
              go_ret
              exact ⟨r2, by rw [nodes_node]; omega, by omega, by show Ending.returned (.bool false) = _; first | (rw [decide_eq_true h12, Bool.true_and, HFL.out, hfd, hfb]; rfl) | (rw [HFL.out, hfd, hfb]; rfl) | (simp only [h12, decide_true, Bool.true_and, HFL.out, hfd, hfb, Bool.false_and]), S7.out.room, S7.out.foot⟩
            | true =>
              go_wp2_with fail
              go_roundw
              case rel => exact ⟨j + 1, r2, by go_num, by omega, S7, by omega, by omega, Lib.hid (by rw [HFL.out, hfd, hfb, Bool.true_and])⟩
              case measure => simp [intOf]; omega
          · obtain rfl : j = kids.length := by omega
            have hjI : ¬ (kids.length : Int) < kids.length := by omega
            go_wp2_with fail
            go_ret
            exact ⟨r', by rw [nodes_node]; omega, by omega, by show Ending.returned (.bool true) = _; first | rw [decide_eq_true h12, Bool.true_and, HFL.out, List.drop_length, fitL] | rw [HFL.out, List.drop_length, fitL], S4.out.room, S4.out.foot⟩
      · have h12a : (12 : Int) < (o + 1 : Nat) := by omega
        have h12b : (12 : Int) < (((o : Int) + 1 : Int)) := by omega
        go_wp2_with fail
        go_ret
        exact ⟨_, by rw [nodes_node]; omega, by omega, by show Ending.returned (.bool false) = _; first | rfl | rw [decide_eq_false h12, Bool.false_and], S3.out.room, S3.out.foot⟩
end Go.Proofs.YtdibkgjldmepcaaDoor.Xp

namespace Go.Proofs.YtdibkgjldmepcaaDoor.Xp
open Go.RowKit Mem Lex Gen
set_option linter.unusedVariables false
set_option linter.unusedSimpArgs false

set_option maxHeartbeats 8000000 in
set_option maxRecDepth 100000 in
theorem fits_C (k n p : Int) (s : Bytes) (kids : List Ex) (h0 : -9223372036854775808 ≤ n) (h1 : n ≤ 9223372036854775807) (hs : s.length ≤ 1000000) (ih : ∀ x ∈ kids, FitC x) : FitG (fun l least => ¬ l < least ∧ ¬ l = 6) (.node k n s kids p) := by
  intro W0 hV R hR P least o r v w hC hl1 hl6 ho hf hroom htr hPR hr hr2
  have HC := Lib.hid hC
  clear hC
  obtain ⟨a, c, rfl, hc1, hc2, hkid⟩ := htr.open
  have hblk := htr.blk
  have hlt := hroom.lt
  have SH := fun W hW => shaped_c k n p s a kids.length c W hW h0 h1 hs ⟨hc1, hc2⟩
  have WD := fun W hW => word_c k n p s a kids.length c W hW h0 h1 hs
  have LV := fun W => xlevel_c k W
  have S0 : FS W0 w (w.alloc (.cells #[.int .i64 k, .int .i64 n, .string (mk s), .slice a kids.length c, .int .i64 p] 24)) R #[.int .i64 k, .int .i64 n, .string (mk s), .slice a kids.length c, .int .i64 p] r := ⟨At.new w _ _, hroom.alloc _, (Foot.refl _ w).alloc _, hf.alloc _, hlt, hR⟩
  have S0 := Lib.hid S0
  have HV := Lib.hid hV
  have HK := Lib.hid hkid
  have HB := Lib.hid hblk
  have HIH := Lib.hid ih
  have HWL := fun (h : shapeB k n s kids.length = true) => word_len h h0 h1
  have HSK := fun (h : shapeB k n s kids.length = true) => shape_kids h
  rw [fitB]
  rw [nodes_node] at hr
  obtain ⟨b0, b1, b2, b3, b4⟩ := cells5 S0.out.box
  have hV0 := Vars.keepB hV S0.out.f0
  clear hkid hblk hV hf hroom htr ih
  cases hsh : shapeB k n s kids.length with
  | false =>
    rw [hsh] at SH
    simp only [Bool.false_and]
    go_enter Tryd.func21, Tryd.ntmps21
    go_upto_region 1 with fail
    generalize w.alloc (.cells #[.int .i64 k, .int .i64 n, .string (mk s), .slice a kids.length c, .int .i64 p] 24) = W1 at *
    go_wp2_with fail
    refine (SH _ hV0).mono ?_
    rintro e w1 ⟨rfl, hf⟩
    have S1 := Lib.hid (S0.out.still hf)
    clear hf
    go_wp2_with fail
    go_ret
    exact ⟨r, by rw [nodes_node]; omega, by omega, rfl, S1.out.room, S1.out.foot⟩
  | true =>
    rw [hsh] at SH
    have hwl := HWL hsh
    have hkl := HSK hsh
    clear HWL HSK
    simp only [Bool.true_and]
    have hlr := lev_range k
    have hlen2 : kids.length ≤ 2 := by unfold opnds at hkl; split at hkl <;> (try split at hkl) <;> omega
    have HL7 := Lib.hid (show 1 ≤ kids.length → lev k ≤ 6 from fun h => by unfold opnds at hkl; split at hkl <;> (try split at hkl) <;> omega)
    have hwz : (mk (wordX k n s)).size = (wordX k n s).length := mk_size _
    generalize hwx : (wordX k n s).length = wl at *
    generalize mk (wordX k n s) = ws at *
    have hbk : ¬ lev k < least := HC.out.1
    have h6 : ¬ lev k = 6 := HC.out.2
    have hbb : brk (lev k) least = 0 := by unfold brk; rw [if_neg hbk]
    have hs0 : sgnN k = 0 := by unfold sgnN; rw [if_neg h6]
    rw [hbb, hs0]
    try simp only [Nat.add_zero]
    have e6 : (lev k == 6) = false := by rw [beq_eq_false_iff_ne]; exact h6
    go_enter Tryd.func21, Tryd.ntmps21
    go_upto_region 1 with fail
    generalize w.alloc (.cells #[.int .i64 k, .int .i64 n, .string (mk s), .slice a kids.length c, .int .i64 p] 24) = W1 at *
    go_wp2_with fail
    refine (SH _ hV0).mono ?_
    rintro e w1 ⟨rfl, hf⟩
    have S1 := Lib.hid (S0.out.still hf)
    clear hf S0 b0 b1 b2 b3 b4 SH
    obtain ⟨b0, b1, b2, b3, b4⟩ := cells5 S1.out.box
    have x0 : w1.cell? ⟨R, 0, none⟩ = some (.int .i64 r) := S1.out.room.cell 0
    have xf0 := S1.out.room.free 0
    go_upto_region 9 with (go_at_call 37; refine (LV _).mono ?_; rintro e w2 ⟨rfl, rfl⟩)
    have S2 := S1
    clear S1 b0 b1 b2 b3 b4 x0 xf0
    obtain ⟨b0, b1, b2, b3, b4⟩ := cells5 S2.out.box
    have x0 : w2.cell? ⟨R, 0, none⟩ = some (.int .i64 r) := S2.out.room.cell 0
    have SD := Lib.hid (S2.out.still ((Foot.refl (fun _ => False) w2).drew))
    have hwr : IntKind.i64.wrap (r - (wl : Int)) = r - (wl : Int) := by rw [IntKind.wrap_i64]; omega
    have hwi : IntKind.i64.wrap (wl : Int) = wl := by rw [IntKind.wrap_i64]; omega
    go_cut [38] from 32 to 39 (fun v wx => v = .int .i64 (r - (wl : Int)) ∧ Hid (FS W0 w wx R #[.int .i64 k, .int .i64 n, .string (mk s), .slice a kids.length c, .int .i64 p] (r - (wl : Int))))
    case first =>
      go_region_with (go_at_call 38; refine (WD _ (Vars.keepB HV.out SD.out.f0)).mono ?_; rintro e wk ⟨rfl, hf⟩; have SK := Lib.hid (SD.out.still hf); clear hf; have y0 : wk.cell? ⟨R, 0, none⟩ = some (.int .i64 r) := SK.out.room.cell 0; have yf0 := SK.out.room.free 0; have SL := Lib.hid (SK.out.set (r - (wl : Int))))
      all_goals go_wp2_with fail
      all_goals go_meet
      all_goals exact ⟨rfl, SL⟩
    case rest =>
      obtain ⟨rfl, S3⟩ := hcut
      clear S2 SD b0 b1 b2 b3 b4 x0 hwr hwi
      obtain ⟨b0, b1, b2, b3, b4⟩ := cells5 S3.out.box
      have x0 : wc.cell? ⟨R, 0, none⟩ = some (.int .i64 (r - (wl : Int))) := S3.out.room.cell 0
      by_cases h12 : o ≤ 12
      · have h12a : ¬ (12 : Int) < (o : Nat) := by omega
        have h12b : ¬ (12 : Int) < (((o : Int) : Int)) := by omega
        have hpos : ¬ r - (wl : Int) < 0 := by omega
        go_wp2_with fail
        have HLT := Lib.hid S3.out.lt
        go_loopw [51] (fun i wr => ∃ (j : Nat) (r' : Int), i = .int .i64 j ∧ j ≤ kids.length ∧ Hid (FS W0 w wr R #[.int .i64 k, .int .i64 n, .string (mk s), .slice a kids.length c, .int .i64 p] r') ∧ r - 30 * (1 + (nodesL kids : Int)) + 30 * (nodesL (kids.drop j) : Int) ≤ r' ∧ r' ≤ r ∧ Hid (fitL kids (lev k) 0 (o) = fitL (kids.drop j) (lev k) j (o))) (fun i _ => kids.length - (intOf i).toNat)
        case atStart => exact ⟨0, r - (wl : Int), rfl, Nat.zero_le _, S3, by rw [List.drop_zero]; omega, by omega, Lib.hid (by rw [List.drop_zero])⟩
        case round =>
          obtain ⟨j, r', rfl, hjl, S4, hr3, hr4, HFL⟩ := hrel
          clear S3 b0 b1 b2 b3 b4 x0
          by_cases hj : j < kids.length
          · have hjI : (j : Int) < kids.length := by omega
            obtain ⟨x, hx⟩ : ∃ x, kids[j]? = some x := ⟨_, List.getElem?_eq_getElem hj⟩
            obtain ⟨g, off, u0, u1, u2, u3, u4, rfl, ⟨y0, y1, y2, y3, y4⟩, htk⟩ := HK.out j x hx
            have hgb := HB.out _ rfl
            obtain ⟨k1, n1, s1, a1, m1, c1, p1, hv1⟩ := htk.five
            simp only [Value.agg.injEq, Array.mk.injEq, List.cons.injEq, and_true] at hv1
            obtain ⟨rfl, rfl, rfl, rfl, rfl⟩ := hv1
            have hgR : g ≠ R := fun e => hPR (e ▸ hgb.1)
            have KP : ∀ {f : Nat} {u : Value}, w.cell? ⟨g, f, none⟩ = some u → wr.cell? ⟨g, f, none⟩ = some u := fun {f u} hc => by rw [S4.out.foot.cell (p := ⟨g, f, none⟩) hgb.2 hgR]; exact hc
            have z0 := KP y0
            have z1 := KP y1
            have z2 := KP y2
            have z3 := KP y3
            have z4 := KP y4
            obtain ⟨b0, b1, b2, b3, b4⟩ := cells5 S4.out.box
            have htr := (htk.keep S4.out.foot (fun q hq hp => hPR (hq ▸ hp))).still ((Foot.refl (fun _ => False) wr).alloc (.cells #[.int .i64 k1, .int .i64 n1, .string s1, .slice a1 m1 c1, .int .i64 p1] 24)) |>.still (Foot.refl (fun _ => False) _).drew
            have S5 := Lib.hid (S4.out.still ((Foot.refl (fun _ => False) wr).alloc (.cells #[.int .i64 k1, .int .i64 n1, .string s1, .slice a1 m1 c1, .int .i64 p1] 24)))
            have hA5 := At.new wr 24 #[.int .i64 k1, .int .i64 n1, .string s1, .slice a1 m1 c1, .int .i64 p1]
            have S6 := Lib.hid (S5.out.still ((Foot.refl (fun _ => False) _).drew))
            have hnd := nodesL_drop hx
            have hlvk : 1 ≤ lev k ∧ lev k ≤ 6 := ⟨hlr.1, HL7.out (by omega)⟩
            have ND : ∀ W, Calls Tryd.prog 39 #[.int .i64 (lev k), .int .i64 j] W fun e w' => e = .returned (.int .i64 (needI (lev k) j)) ∧ w' = W := fun W => needed_c (lev k) j W (by omega) (by omega)
            have hni : 1 ≤ needI (lev k) j ∧ needI (lev k) j ≤ 6 := by
              unfold needI
              split
              · omega
              · split
                · omega
                · have : lev k ≤ 5 := by omega
                  omega
            have FT := HIH.out x (List.mem_of_getElem? hx) W0 HV.out R hR P (needI (lev k) j) (o) r' _ _ hni.1 hni.2 h12 S6.out.f0 S6.out.room htr hPR (by omega) (by omega)
            have hfd := fitL_drop hx (lev k) (o)
            generalize needI (lev k) j = nq at FT hfd ND hni
            clear htr y0 y1 y2 y3 y4 htk KP hni
            go_upto_region 15 with fail
            generalize wr.alloc (.cells #[.int .i64 k1, .int .i64 n1, .string s1, .slice a1 m1 c1, .int .i64 p1] 24) = W4 at *
            obtain ⟨d0, d1, d2, d3, d4⟩ := cells5 hA5
            clear z0 z1 z2 z3 z4 b0 b1 b2 b3 b4 hA5
            go_still_tail 6, (by kernel_rfl)
            still_call (ND _)
            repeat still_step
            refine wpStill_nil ?_
            change wpList _ _ _ _ _ W4.drew
            go_wp2_with fail
            refine FT.mono ?_
            rintro e wf ⟨r2, ha1, ha2, rfl, hrm, hff⟩
            have S7 := Lib.hid (S6.out.step hrm hff)
            clear hrm hff S6 S5 FT
            cases hfb : fitB x nq (o) with
            | false =>
              go_wp2_with fail
              go_ret
              exact ⟨r2, by rw [nodes_node]; omega, by omega, by show Ending.returned (.bool false) = _; first | (rw [decide_eq_true h12, Bool.true_and, HFL.out, hfd, hfb]; rfl) | (rw [HFL.out, hfd, hfb]; rfl) | (simp only [h12, decide_true, Bool.true_and, HFL.out, hfd, hfb, Bool.false_and]), S7.out.room, S7.out.foot⟩
            | true =>
              go_wp2_with fail
              go_roundw
              case rel => exact ⟨j + 1, r2, by go_num, by omega, S7, by omega, by omega, Lib.hid (by rw [HFL.out, hfd, hfb, Bool.true_and])⟩
              case measure => simp [intOf]; omega
          · obtain rfl : j = kids.length := by omega
            have hjI : ¬ (kids.length : Int) < kids.length := by omega
            go_wp2_with fail
            go_ret
            exact ⟨r', by rw [nodes_node]; omega, by omega, by show Ending.returned (.bool true) = _; first | rw [decide_eq_true h12, Bool.true_and, HFL.out, List.drop_length, fitL] | rw [HFL.out, List.drop_length, fitL], S4.out.room, S4.out.foot⟩
      · have h12a : (12 : Int) < (o : Nat) := by omega
        have h12b : (12 : Int) < (((o : Int) : Int)) := by omega
        go_wp2_with fail
        go_ret
        exact ⟨_, by rw [nodes_node]; omega, by omega, by show Ending.returned (.bool false) = _; first | rfl | rw [decide_eq_false h12, Bool.false_and], S3.out.room, S3.out.foot⟩
end Go.Proofs.YtdibkgjldmepcaaDoor.Xp

namespace Go.Proofs.YtdibkgjldmepcaaDoor.Xp
open Go.RowKit Mem Lex Gen
set_option linter.unusedVariables false
set_option linter.unusedSimpArgs false

theorem fits_node (k n p : Int) (s : Bytes) (kids : List Ex) (h0 : -9223372036854775808 ≤ n) (h1 : n ≤ 9223372036854775807) (hs : s.length ≤ 1000000) (ih : ∀ x ∈ kids, FitC x) : FitC (.node k n s kids p) := by
  intro W0 hV R hR P least o r v w
  by_cases hb : lev k < least
  · exact fits_A k n p s kids h0 h1 hs ih W0 hV R hR P least o r v w hb
  · by_cases h6 : lev k = 6
    · exact fits_B k n p s kids h0 h1 hs ih W0 hV R hR P least o r v w ⟨hb, h6⟩
    · exact fits_C k n p s kids h0 h1 hs ih W0 hV R hR P least o r v w ⟨hb, h6⟩
theorem fits_c {x : Ex} (h : Rng x) : FitC x := by
  induction h with
  | mk k n p s kids h0 h1 hs hk ih => exact fits_node k n p s kids h0 h1 hs ih
theorem right_c {x : Ex} (hx : Rng x) (P : Nat → Prop) (v : Value) (w : World) (hv : Vars w) (ht : Tr w P v x) (hP : ∀ k, P k → k < w.heap.size) (hz : 30 * (nodes x : Int) ≤ 16384) :
    Calls Tryd.prog 11 #[v] w fun e w' => e = .returned (.bool (fitB x 1 0)) ∧ Foot (fun _ => False) w w' := by
  obtain ⟨k, n, s, a, m, c, p, rfl⟩ := ht.five
  obtain ⟨x1, x2, x3, x4⟩ := two (Foot.refl (fun _ => False) ((w.alloc (.cells #[.int .i64 k, .int .i64 n, .string s, .slice a m c, .int .i64 p] 24)).alloc (.cells #[.int .i64 16384] 3)))
  have FT := fits_c hx w hv (w.heap.size + 1) (by omega) P 1 0 16384 _ _ (by decide) (by decide) (by decide) (x3.mono fun _ _ h => h.elim) x2 (ht.still x3) (fun h => by have := hP _ h; omega) hz (by decide)
  obtain ⟨c0, c1, c2, c3, c4⟩ := cells5 x1
  have HF := Lib.hid x3
  clear x1 x2 x3 x4 ht hv
  go_enter Tryd.func11, Tryd.ntmps11
  go_upto_region 2 with fail
  generalize (w.alloc (.cells #[.int .i64 k, .int .i64 n, .string s, .slice a m c, .int .i64 p] 24)).alloc (.cells #[.int .i64 16384] 3) = W1 at *
  go_wp2_with fail
  refine FT.mono ?_
  rintro e w1 ⟨r', _, _, rfl, _, hf⟩
  go_wp2_with fail
  go_ret
  exact ⟨rfl, HF.out.trans hf fun q hq h => by omega⟩
end Go.Proofs.YtdibkgjldmepcaaDoor.Xp

namespace Go.Proofs.YtdibkgjldmepcaaDoor.Xp
open Go.RowKit Mem Lex Gen
set_option linter.unusedVariables false

theorem nodes_ok {x : Ex} (h : Ok x) : nodes x = sizeX x := by
  induction h with
  | un k a p h ha ih => simp only [nodes, nodesL, sizeX, ih]; omega
  | bin k a b p h ha hb ia ib => simp only [nodes, nodesL, sizeX, ia, ib]; omega
  | _ => simp [nodes, nodesL, sizeX]
theorem fit_ok {x : Ex} (h : Ok x) : ∀ (least : Int) (o : Nat), o + brk (lev x.kind) least + nestX x ≤ 12 → fitB x least o = true := by
  induction h with
  | num n p h0 h1 =>
    intro least o ho
    simp only [Ex.kind, nestX] at ho
    have hs : shapeB 1 n [] 0 = true := by simp [shapeB, show lev 1 = 7 from rfl, opnds, h0]
    have e : sgnN 1 = 0 := rfl
    simp only [fitB, fitL, List.length_nil, hs, e, Nat.add_zero, Bool.true_and, Bool.and_true]
    exact decide_eq_true (by omega)
  | var s p h =>
    intro least o ho
    simp only [Ex.kind, nestX] at ho
    have hs : shapeB 2 0 s 0 = true := by simp [shapeB, show lev 2 = 7 from rfl, opnds]; exact h
    have e : sgnN 2 = 0 := rfl
    simp only [fitB, fitL, List.length_nil, hs, e, Nat.add_zero, Bool.true_and, Bool.and_true]
    exact decide_eq_true (by omega)
  | arg p =>
    intro least o ho
    simp only [Ex.kind, nestX] at ho
    have hs : shapeB 3 0 [] 0 = true := by decide
    have e : sgnN 3 = 0 := rfl
    simp only [fitB, fitL, List.length_nil, hs, e, Nat.add_zero, Bool.true_and, Bool.and_true]
    exact decide_eq_true (by omega)
  | inn s p h =>
    intro least o ho
    simp only [Ex.kind, nestX] at ho
    have hs : shapeB 4 0 s 0 = true := by simp [shapeB, show lev 4 = 7 from rfl, opnds]; exact h
    have e : sgnN 4 = 0 := rfl
    simp only [fitB, fitL, List.length_nil, hs, e, Nat.add_zero, Bool.true_and, Bool.and_true]
    exact decide_eq_true (by omega)
  | un k a p h ha ih =>
    intro least o ho
    have ho : o + brk (lev k) least + (nestX a + brk (lev a.kind) 6 + 1) ≤ 12 := ho
    have hl := lev_un h
    have hs : shapeB k 0 [] 1 = true := by rcases h with rfl | rfl <;> decide
    have e : sgnN k = 1 := by unfold sgnN; rw [if_pos hl]
    rw [fitB, fitL, fitL]
    simp only [List.length_cons, List.length_nil, hs, e, Bool.true_and, Bool.and_true, Bool.and_eq_true]
    refine ⟨decide_eq_true (by omega), ih _ _ ?_⟩
    have : needI (lev k) 0 = 6 := by unfold needI; rw [if_pos hl]
    rw [this]; omega
  | bin k a b p h ha hb ia ib =>
    intro least o ho
    have ho : o + brk (lev k) least + max (nestX a + brk (lev a.kind) (leftA k)) (nestX b + brk (lev b.kind) (lev k + 1)) ≤ 12 := ho
    have hl := lev_bin h
    have hs : shapeB k 0 [] 2 = true := by
      obtain ⟨h7, h19⟩ := h
      obtain rfl | rfl | rfl | rfl | rfl | rfl | rfl | rfl | rfl | rfl | rfl | rfl | rfl : k = 7 ∨ k = 8 ∨ k = 9 ∨ k = 10 ∨ k = 11 ∨ k = 12 ∨ k = 13 ∨ k = 14 ∨ k = 15 ∨ k = 16 ∨ k = 17 ∨ k = 18 ∨ k = 19 := by omega
      all_goals decide
    have e : sgnN k = 0 := by unfold sgnN; rw [if_neg (by omega)]
    rw [fitB, fitL, fitL, fitL]
    simp only [List.length_cons, List.length_nil, hs, e, Nat.add_zero, Bool.true_and, Bool.and_true, Bool.and_eq_true]
    have e0 : needI (lev k) 0 = leftA k := by unfold needI leftA; rw [if_neg (by omega)]; split <;> simp
    have e1 : needI (lev k) (0 + 1) = lev k + 1 := by
      unfold needI; rw [if_neg (by omega)]; split
      · rename_i g; rw [g]; rfl
      · rfl
    have m1 := Nat.le_max_left (nestX a + brk (lev a.kind) (leftA k)) (nestX b + brk (lev b.kind) (lev k + 1))
    have m2 := Nat.le_max_right (nestX a + brk (lev a.kind) (leftA k)) (nestX b + brk (lev b.kind) (lev k + 1))
    refine ⟨decide_eq_true (by omega), ia _ _ ?_, ib _ _ ?_⟩
    · rw [e0]; omega
    · rw [e1]; omega
theorem fit_all {x : Ex} (h : Ok x) (hn : nestX x ≤ 12) : fitB x 1 0 = true := by
  refine fit_ok h 1 0 ?_
  have := lev_range x.kind
  have : brk (lev x.kind) 1 = 0 := by unfold brk; rw [if_neg (by omega)]
  omega
end Go.Proofs.YtdibkgjldmepcaaDoor.Xp
