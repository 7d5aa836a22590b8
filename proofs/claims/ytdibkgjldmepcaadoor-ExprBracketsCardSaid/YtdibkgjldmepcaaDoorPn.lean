/- expr.Same, and the shelf's EqualFunc over it. -/
import Derived.Test.YtdibkgjldmepcaaDoorPr
import Derived.Deep.RegionWith
import Derived.Deep.LoopGhost
import Derived.StillTailTactics
namespace Go.Proofs.YtdibkgjldmepcaaDoor.Xp
open Go.RowKit Mem Lex Gen
set_option linter.unusedVariables false
set_option linter.unusedSimpArgs false

mutual
def sameB : Ex → Ex → Bool
  | .node k n s l _, .node k' n' s' m _ => (k == k') && (n == n') && (s == s') && sameL l m
def sameL : List Ex → List Ex → Bool
  | [], [] => true
  | a :: l, b :: m => sameB a b && sameL l m
  | [], _ :: _ => false
  | _ :: _, [] => false
end
theorem sameL_len : ∀ (l m : List Ex), l.length ≠ m.length → sameL l m = false
  | [], [], h => absurd rfl h
  | a :: l, b :: m, h => by rw [sameL, sameL_len l m (by simpa using h), Bool.and_false]
  | [], _ :: _, _ => by rw [sameL]
  | _ :: _, [], _ => by rw [sameL]
theorem sameL_drop {l m : List Ex} {i : Nat} {x y : Ex} (h : l[i]? = some x) (h' : m[i]? = some y) : sameL (l.drop i) (m.drop i) = (sameB x y && sameL (l.drop (i + 1)) (m.drop (i + 1))) := by
  obtain ⟨h1, h2⟩ := List.getElem?_eq_some_iff.1 h
  obtain ⟨h3, h4⟩ := List.getElem?_eq_some_iff.1 h'
  rw [List.drop_eq_getElem_cons h1, List.drop_eq_getElem_cons h3, h2, h4, sameL]
theorem sameL_all : ∀ (l m : List Ex), l.length = m.length → (∀ (i : Nat) (a b : Ex), l[i]? = some a → m[i]? = some b → sameB a b = true) → sameL l m = true
  | [], [], _, _ => by rw [sameL]
  | a :: l, b :: m, h, hh => by rw [sameL, hh 0 a b rfl rfl, sameL_all l m (by simpa using h) fun i x y hx hy => hh (i + 1) x y hx hy, Bool.true_and]
  | [], _ :: _, h, _ => by simp at h
  | _ :: _, [], h, _ => by simp at h
theorem Sm.sameB {x y : Ex} (h : Sm x y) : sameB x y = true := by
  induction h with
  | mk k n s l m p q hl h ih => rw [Xp.sameB, beq_self_eq_true, beq_self_eq_true, beq_self_eq_true, sameL_all l m hl ih]; rfl
def SameC (x : Ex) : Prop := ∀ (y : Ex) (P U : Nat → Prop) (v u : Value) (w : World), Tr w P v x → Tr w U u y →
  Calls Tryd.prog 16 #[v, u] w fun e w' => e = .returned (.bool (sameB x y)) ∧ Foot (fun _ => False) w w'
/-- The rows of a node's children. -/
structure Kids (w : World) (P : Nat → Prop) (a : Option Addr) (kids : List Ex) : Prop where
  at_ : ∀ i x, kids[i]? = some x → ∃ g off u0 u1 u2 u3 u4, a = some ⟨g, off, none⟩ ∧
        (w.cell? ⟨g, off + i * 5, none⟩ = some u0 ∧ w.cell? ⟨g, off + i * 5 + 1, none⟩ = some u1 ∧ w.cell? ⟨g, off + i * 5 + 2, none⟩ = some u2 ∧ w.cell? ⟨g, off + i * 5 + 3, none⟩ = some u3 ∧ w.cell? ⟨g, off + i * 5 + 4, none⟩ = some u4) ∧
        Tr w P (.agg #[u0, u1, u2, u3, u4]) x
  blk : ∀ y, a = some y → y.block < w.heap.size
theorem Kids.keep {w w' : World} {P : Nat → Prop} {a : Option Addr} {kids : List Ex} (h : Kids w P a kids) (hf : Foot (fun _ => False) w w') : Kids w' P a kids := by
  refine ⟨fun i x hx => ?_, fun y hy => ?_⟩
  · obtain ⟨g, off, u0, u1, u2, u3, u4, rfl, ⟨y0, y1, y2, y3, y4⟩, ht⟩ := h.at_ i x hx
    have hg := h.blk _ rfl
    exact ⟨g, off, u0, u1, u2, u3, u4, rfl, ⟨by rw [hf.cell (p := ⟨g, off + i * 5, none⟩) hg id]; exact y0, by rw [hf.cell (p := ⟨g, off + i * 5 + 1, none⟩) hg id]; exact y1, by rw [hf.cell (p := ⟨g, off + i * 5 + 2, none⟩) hg id]; exact y2, by rw [hf.cell (p := ⟨g, off + i * 5 + 3, none⟩) hg id]; exact y3, by rw [hf.cell (p := ⟨g, off + i * 5 + 4, none⟩) hg id]; exact y4⟩, ht.still hf⟩
  · have := h.blk y hy; have := hf.size; omega
theorem Tr.kids {w : World} {P : Nat → Prop} {v : Value} {k n p : Int} {s : Bytes} {kids : List Ex} (h : Tr w P v (.node k n s kids p)) :
    ∃ a c, v = .agg #[.int .i64 k, .int .i64 n, .string (mk s), .slice a kids.length c, .int .i64 p] ∧ Kids w P a kids ∧ kids.length ≤ maxLen := by
  obtain ⟨a, c, rfl, hc1, hc2, hk⟩ := h.open
  have hb := h.blk
  exact ⟨a, c, rfl, ⟨hk, fun y hy => (hb y hy).2⟩, Nat.le_trans hc1 hc2⟩

set_option maxHeartbeats 4000000 in
set_option maxRecDepth 100000 in
theorem eqfunc_c (l m : List Ex) (ih : ∀ x ∈ l, SameC x) (hlb : l.length ≤ maxLen) (P U : Nat → Prop) (a b : Option Addr) (c d : Nat) (w : World) (hl : Kids w P a l) (hm : Kids w U b m) :
    Calls Tryd.prog 30 #[.slice a l.length c, .slice b m.length d, .func (.func 16) #[] #[]] w fun e w' =>
      e = .returned (.bool (sameL l m)) ∧ Foot (fun _ => False) w w' := by
  have hlb2 : l.length ≤ 9223372036854775807 := Nat.le_trans hlb (by decide)
  have HL := Lib.hid hl
  have HM := Lib.hid hm
  have HI := Lib.hid ih
  have HF := Lib.hid (Foot.refl (fun _ => False) w)
  clear hl hm ih
  by_cases hlm : l.length = m.length
  · rw [← hlm]
    have HLM := Lib.hid hlm
    clear hlm
    go_enter Tryd.func30, Tryd.ntmps30
    go_wp2_with fail
    go_loopw [17] (fun i wr => ∃ j : Nat, i = .int .i64 j ∧ j ≤ l.length ∧ Hid (Foot (fun _ => False) w wr) ∧ Hid (sameL l m = sameL (l.drop j) (m.drop j))) (fun i _ => l.length - (intOf i).toNat)
    case atStart => exact ⟨0, rfl, Nat.zero_le _, HF, Lib.hid (by rw [List.drop_zero, List.drop_zero])⟩
    case round =>
      obtain ⟨j, rfl, hjl, HR, HS⟩ := hrel
      by_cases hj : j < l.length
      · have hjI : (j : Int) < l.length := by omega
        obtain ⟨x, hx⟩ : ∃ x, l[j]? = some x := ⟨_, List.getElem?_eq_getElem hj⟩
        obtain ⟨y, hy⟩ : ∃ y, m[j]? = some y := ⟨_, List.getElem?_eq_getElem (HLM.out ▸ hj)⟩
        obtain ⟨g, off, u0, u1, u2, u3, u4, rfl, ⟨y0, y1, y2, y3, y4⟩, htx⟩ := (HL.out.keep HR.out).at_ j x hx
        obtain ⟨k1, n1, s1, a1, m1, c1, p1, hv1⟩ := htx.five
        simp only [Value.agg.injEq, Array.mk.injEq, List.cons.injEq, and_true] at hv1
        obtain ⟨rfl, rfl, rfl, rfl, rfl⟩ := hv1
        have F1 := HR.out.alloc (.cells #[.int .i64 k1, .int .i64 n1, .string s1, .slice a1 m1 c1, .int .i64 p1] 24)
        have A1 := At.new wr 24 #[.int .i64 k1, .int .i64 n1, .string s1, .slice a1 m1 c1, .int .i64 p1]
        have HTX := Lib.hid (htx.still ((Foot.refl (fun _ => False) wr).alloc (.cells #[.int .i64 k1, .int .i64 n1, .string s1, .slice a1 m1 c1, .int .i64 p1] 24)))
        clear htx
        go_upto_region 6 with fail
        clear y0 y1 y2 y3 y4
        generalize hb1 : wr.heap.size = b1 at *
        generalize wr.alloc (.cells #[.int .i64 k1, .int .i64 n1, .string s1, .slice a1 m1 c1, .int .i64 p1] 24) = W1 at *
        obtain ⟨g', off', u0, u1, u2, u3, u4, rfl, ⟨y0, y1, y2, y3, y4⟩, hty⟩ := (HM.out.keep F1).at_ j y hy
        obtain ⟨k2, n2, s2, a2, m2, c2, p2, hv1⟩ := hty.five
        simp only [Value.agg.injEq, Array.mk.injEq, List.cons.injEq, and_true] at hv1
        obtain ⟨rfl, rfl, rfl, rfl, rfl⟩ := hv1
        have F2 := F1.alloc (.cells #[.int .i64 k2, .int .i64 n2, .string s2, .slice a2 m2 c2, .int .i64 p2] 24)
        have F12 := (Foot.refl (fun _ => False) W1).alloc (.cells #[.int .i64 k2, .int .i64 n2, .string s2, .slice a2 m2 c2, .int .i64 p2] 24)
        have A1 := A1.keep F12 id
        have A2 := At.new W1 24 #[.int .i64 k2, .int .i64 n2, .string s2, .slice a2 m2 c2, .int .i64 p2]
        have HTX := Lib.hid (HTX.out.still F12)
        have HTY := Lib.hid (hty.still F12)
        clear hty F12
        go_upto_region 7 with fail
        clear y0 y1 y2 y3 y4
        generalize hb2 : W1.heap.size = b2 at *
        generalize W1.alloc (.cells #[.int .i64 k2, .int .i64 n2, .string s2, .slice a2 m2 c2, .int .i64 p2] 24) = W2 at *
        have FT := HI.out x (List.mem_of_getElem? hx) y P U _ _ W2 HTX.out HTY.out
        have F2 := Lib.hid F2
        obtain ⟨y0, y1, y2, y3, y4⟩ := cells5 A1
        obtain ⟨z0, z1, z2, z3, z4⟩ := cells5 A2
        have hsd := sameL_drop hx hy
        clear A1 A2 F1
        go_wp2_with fail
        refine FT.mono ?_
        rintro e wf ⟨rfl, hff⟩
        have F3 := Lib.hid (F2.out.trans hff fun _ _ h => h)
        clear hff F2 FT
        cases hfb : sameB x y with
        | false =>
          go_wp2_with fail
          go_ret
          exact ⟨by show Ending.returned (.bool false) = _; rw [HS.out, hsd, hfb]; rfl, F3.out⟩
        | true =>
          go_wp2_with fail
          go_roundw
          case rel => exact ⟨j + 1, by go_num, by omega, F3, Lib.hid (by rw [HS.out, hsd, hfb, Bool.true_and])⟩
          case measure => simp [intOf]; omega
      · obtain rfl : j = l.length := by omega
        have hjI : ¬ (l.length : Int) < l.length := by omega
        go_wp2_with fail
        go_ret
        exact ⟨by show Ending.returned (.bool true) = _; rw [HS.out, List.drop_length, HLM.out, List.drop_length, sameL], HR.out⟩
  · have hlmI : ¬ (l.length : Int) = m.length := by omega
    go_enter Tryd.func30, Tryd.ntmps30
    go_wp2_with fail
    go_ret
    exact ⟨by show Ending.returned (.bool false) = _; rw [sameL_len l m hlm], HF.out⟩

set_option maxHeartbeats 4000000 in
set_option maxRecDepth 100000 in
theorem same_node (k n p : Int) (s : Bytes) (kids : List Ex) (ih : ∀ x ∈ kids, SameC x) : SameC (.node k n s kids p) := by
  intro y P U v u w hx hy
  obtain ⟨k', n', s', kids', p'⟩ := y
  obtain ⟨a, c, rfl, hk, hkb⟩ := hx.kids
  obtain ⟨b, d, rfl, hk', _⟩ := hy.kids
  rw [sameB]
  clear hx hy
  have hS1 : (mk s).toList = s := by rw [toList_bs, bs_mk]
  have hS2 : (mk s').toList = s' := by rw [toList_bs, bs_mk]
  generalize mk s = S1 at *
  generalize mk s' = S2 at *
  obtain ⟨B1, B2, X3, _⟩ := two (Foot.refl (fun _ => False) ((w.alloc (.cells #[.int .i64 k, .int .i64 n, .string S1, .slice a kids.length c, .int .i64 p] 24)).alloc (.cells #[.int .i64 k', .int .i64 n', .string S2, .slice b kids'.length d, .int .i64 p'] 24)))
  have X3 := Lib.hid X3
  have EQ := eqfunc_c kids kids' ih hkb P U a b c d _ (hk.keep X3.out) (hk'.keep X3.out)
  clear hk hk' ih
  have HS1 := Lib.hid hS1
  clear hS1
  have HS2 := Lib.hid hS2
  clear hS2
  go_enter Tryd.func16, Tryd.ntmps16
  go_upto_region 1 with fail
  generalize w.heap.size = c1 at *
  generalize (w.alloc (.cells #[.int .i64 k, .int .i64 n, .string S1, .slice a kids.length c, .int .i64 p] 24)).alloc (.cells #[.int .i64 k', .int .i64 n', .string S2, .slice b kids'.length d, .int .i64 p'] 24) = W1 at *
  obtain ⟨y0, y1, y2, y3, y4⟩ := cells5 B1
  obtain ⟨z0, z1, z2, z3, z4⟩ := cells5 B2
  clear B1 B2
  generalize hr : sameL kids kids' = r at *
  by_cases hkk : k = k'
  · have hkq : (k == k') = true := by rw [hkk]; exact beq_self_eq_true _
    by_cases hnn : n = n'
    · have hnb : (n == n') = true := by rw [hnn]; exact beq_self_eq_true _
      by_cases hss : s = s'
      · have hsb : (s == s') = true := by rw [hss]; exact beq_self_eq_true _
        have hst : (S1.toList == S2.toList) = true := by rw [HS1.out, HS2.out]; exact hsb
        go_wp2_with fail
        refine EQ.mono ?_
        rintro e w2 ⟨rfl, hf⟩
        go_wp2_with fail
        go_ret
        exact ⟨by show Ending.returned (.bool r) = _; simp only [hkq, hnb, hsb, hr, Bool.true_and], X3.out.trans hf fun _ _ h => h⟩
      · have hsb : (s == s') = false := beq_eq_false_iff_ne.2 hss
        have hst : (S1.toList == S2.toList) = false := by rw [HS1.out, HS2.out]; exact hsb
        go_wp2_with fail
        go_ret
        exact ⟨by rw [hkq, hnb, hsb]; rfl, X3.out⟩
    · have hnb : (n == n') = false := beq_eq_false_iff_ne.2 hnn
      go_wp2_with fail
      go_ret
      exact ⟨by rw [hkq, hnb]; rfl, X3.out⟩
  · have hkq : (k == k') = false := beq_eq_false_iff_ne.2 hkk
    go_wp2_with fail
    go_ret
    exact ⟨by rw [hkq]; rfl, X3.out⟩
theorem xsame_n : ∀ (n : Nat) (x : Ex), SizeOf.sizeOf x ≤ n → SameC x
  | 0, .node k m s kids p, h => by simp only [Ex.node.sizeOf_spec] at h; omega
  | n + 1, .node k m s kids p, h => same_node k m p s kids fun x hx => xsame_n n x (by
      have := List.sizeOf_lt_of_mem hx
      simp only [Ex.node.sizeOf_spec] at h; omega)
theorem xsame_c (x : Ex) : SameC x := xsame_n _ x (Nat.le_refl _)
end Go.Proofs.YtdibkgjldmepcaaDoor.Xp
