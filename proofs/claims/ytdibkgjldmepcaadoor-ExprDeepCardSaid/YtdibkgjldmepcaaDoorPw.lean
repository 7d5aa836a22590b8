/- expr.Print. -/
import Derived.Test.YtdibkgjldmepcaaDoorPx
import Derived.Test.YtdibkgjldmepcaaDoorPc
import Derived.Test.YtdibkgjldmepcaaDoorPj
import Derived.Test.YtdibkgjldmepcaaDoorShB
namespace Go.Proofs.YtdibkgjldmepcaaDoor.Xp
open Go.RowKit Mem Lex Gen
set_option linter.unusedVariables false
set_option linter.unusedSimpArgs false

theorem dec_dgs : ∀ (m k : Nat), k < m → Go.Lib.decDigits k = dgs k
  | 0, k, h => absurd h (by omega)
  | m + 1, k, h => by
    by_cases hk : k < 10
    · rw [dgs_lt hk, Go.Lib.decDigits, dif_pos hk]
    · rw [dgs_ge hk, Go.Lib.decDigits, dif_neg hk, dec_dgs m (k / 10) (by omega)]
theorem itoa_dec (n : Int) : Go.Lib.itoa n = decT n := by
  unfold Go.Lib.itoa decT
  split
  · rw [dec_dgs (n.natAbs + 1) _ (by omega), show (-n).toNat = n.natAbs by omega]
  · rw [dec_dgs (n.toNat + 1) _ (by omega)]
theorem foot_grow (w : World) (k : Nat) (os : Array Obj) : Foot (fun _ => False) w (Go.Sort.grow (w.drewN k) os) :=
  ⟨rfl, rfl, rfl, by show w.heap.size ≤ (w.heap ++ os).size; rw [Array.size_append]; omega, fun j hj _ => by show (w.heap ++ os)[j]? = _; rw [Array.getElem?_append_left hj]⟩
theorem fmt_c (n : Int) (w : World) (h0 : -9223372036854775808 ≤ n) (h1 : n ≤ 9223372036854775807) (hv : Vars w) :
    Calls Tryd.prog 56 #[.int .i64 n, .int .i64 10] w fun e w' => e = .returned (.string (mk (decT n))) ∧ Foot (fun _ => False) w w' := by
  refine (Any.strconv_FormatInt_10 Tryd.layFmt n h0 h1 w hv.tab).mono ?_
  rintro e w' ⟨rfl, k, os, rfl⟩
  refine ⟨by rw [itoa_dec]; rfl, ?_⟩
  exact foot_grow w k os
/-- What word answers, of whatever expression. -/
def wordX (k n : Int) (s : Bytes) : Bytes := if k = 1 then decT n else if k = 2 then s else if k = 3 then [36] else if k = 4 then [105, 110, 40] ++ s ++ [41] else if k = 5 then [45] else if k = 6 then [33] else sgT k
set_option maxHeartbeats 2000000 in
theorem word_c (k n p : Int) (s : Bytes) (a : Option Addr) (m c : Nat) (w : World) (hv : Vars w) (h0 : -9223372036854775808 ≤ n) (h1 : n ≤ 9223372036854775807) (hs : s.length ≤ 1000000) :
    Calls Tryd.prog 38 #[.agg #[.int .i64 k, .int .i64 n, .string (mk s), .slice a m c, .int .i64 p]] w fun e w' => e = .returned (.string (mk (wordX k n s))) ∧ Foot (fun _ => False) w w' := by
  have HF := Lib.hid ((Foot.refl (fun _ => False) w).alloc (.cells #[.int .i64 k, .int .i64 n, .string (mk s), .slice a m c, .int .i64 p] 24))
  have FM := fun W hW => fmt_c n W h0 h1 hW
  have SG := fun W => sign_c k W
  have HV := Lib.hid hv
  have hsz : (mk s).size ≤ 1000000 := by rw [mk_size]; exact hs
  have HW : Hid (mk ([105, 110, 40] ++ s ++ [41]) = ⟨#[105, 110, 40]⟩ ++ mk s ++ ⟨#[41]⟩) := Lib.hid (eq_mk (by rw [bs_append, bs_append]; rfl)).symm
  have hz1 : ¬ 9223372036854775807 < 3 + (mk s).size := by omega
  have hz2 : ¬ 9223372036854775807 < 3 + (mk s).size + 1 := by omega
  clear hv h0 h1 hs hsz
  unfold wordX
  by_cases g1 : k = 1
  · simp only [g1, if_true]
    subst g1
    clear SG
    go_enter Tryd.func38, Tryd.ntmps38
    go_wp2_with fail
    refine (FM _ (HV.out.keep HF.out)).mono ?_
    rintro e w1 ⟨rfl, hf⟩
    go_wp2_with fail
    go_ret
    exact ⟨rfl, HF.out.trans hf fun _ _ h => h⟩
  · have e1 : (k == 1) = false := by rw [beq_eq_false_iff_ne]; exact g1
    by_cases g2 : k = 2
    · simp only [g2, if_true]
      try simp only [show ¬ ((2 : Int) = 1) by decide, show ¬ ((2 : Int) = 2) by decide, show ¬ ((2 : Int) = 3) by decide, show ¬ ((2 : Int) = 4) by decide, show ¬ ((2 : Int) = 5) by decide, if_false, if_true]
      subst g2
      clear SG
      go_enter Tryd.func38, Tryd.ntmps38
      go_wp2_with fail
      go_ret
      exact ⟨rfl, HF.out⟩
    · have e2 : (k == 2) = false := by rw [beq_eq_false_iff_ne]; exact g2
      by_cases g3 : k = 3
      · simp only [g3, if_true]
        try simp only [show ¬ ((3 : Int) = 1) by decide, show ¬ ((3 : Int) = 2) by decide, show ¬ ((3 : Int) = 3) by decide, show ¬ ((3 : Int) = 4) by decide, show ¬ ((3 : Int) = 5) by decide, if_false, if_true]
        subst g3
        clear SG
        go_enter Tryd.func38, Tryd.ntmps38
        go_wp2_with fail
        go_ret
        exact ⟨rfl, HF.out⟩
      · have e3 : (k == 3) = false := by rw [beq_eq_false_iff_ne]; exact g3
        by_cases g4 : k = 4
        · simp only [g4, if_true]
          try simp only [show ¬ ((4 : Int) = 1) by decide, show ¬ ((4 : Int) = 2) by decide, show ¬ ((4 : Int) = 3) by decide, show ¬ ((4 : Int) = 4) by decide, show ¬ ((4 : Int) = 5) by decide, if_false, if_true]
          subst g4
          clear SG
          go_enter Tryd.func38, Tryd.ntmps38
          go_wp2_with fail
          go_ret
          exact ⟨by rw [show mk (105 :: 110 :: 40 :: (s ++ [41])) = mk ([105, 110, 40] ++ s ++ [41]) from rfl, HW.out]; rfl, HF.out⟩
        · have e4 : (k == 4) = false := by rw [beq_eq_false_iff_ne]; exact g4
          by_cases g5 : k = 5
          · simp only [g5, if_true]
            try simp only [show ¬ ((5 : Int) = 1) by decide, show ¬ ((5 : Int) = 2) by decide, show ¬ ((5 : Int) = 3) by decide, show ¬ ((5 : Int) = 4) by decide, show ¬ ((5 : Int) = 5) by decide, if_false, if_true]
            subst g5
            clear SG
            go_enter Tryd.func38, Tryd.ntmps38
            go_wp2_with fail
            go_ret
            exact ⟨rfl, HF.out⟩
          · have e5 : (k == 5) = false := by rw [beq_eq_false_iff_ne]; exact g5
            by_cases g6 : k = 6
            · simp only [g6, if_true]
              try simp only [show ¬ ((6 : Int) = 1) by decide, show ¬ ((6 : Int) = 2) by decide, show ¬ ((6 : Int) = 3) by decide, show ¬ ((6 : Int) = 4) by decide, show ¬ ((6 : Int) = 5) by decide, if_false, if_true]
              subst g6
              clear SG
              go_enter Tryd.func38, Tryd.ntmps38
              go_wp2_with fail
              go_ret
              exact ⟨rfl, HF.out⟩
            · have e6 : (k == 6) = false := by rw [beq_eq_false_iff_ne]; exact g6
              simp only [g1, g2, g3, g4, g5, g6, if_false]
              clear g1 g2 g3 g4 g5 g6
              go_enter Tryd.func38, Tryd.ntmps38
              go_wp2_with (go_at_call 57; refine (SG _).mono ?_; rintro e w' ⟨rfl, rfl⟩)
              go_ret
              exact ⟨rfl, HF.out⟩

theorem needed_c (n k : Int) (w : World) (hn : 1 ≤ n ∧ n ≤ 7) (hk : 0 ≤ k ∧ k ≤ 1000000) : Calls Tryd.prog 39 #[.int .i64 n, .int .i64 k] w fun e w' => e = .returned (.int .i64 (if n = 6 then 6 else if n = 3 then 4 else n + k)) ∧ w' = w := by
  have hw : IntKind.i64.wrap (n + k) = n + k := by rw [IntKind.wrap_i64]; omega
  by_cases h6 : n = 6
  · subst h6
    go_enter Tryd.func39, Tryd.ntmps39
    go_wp2_with fail
    go_ret
    exact ⟨rfl, rfl⟩
  · have e6 : (n == 6) = false := by rw [beq_eq_false_iff_ne]; exact h6
    by_cases h3 : n = 3
    · subst h3
      go_enter Tryd.func39, Tryd.ntmps39
      go_wp2_with fail
      go_ret
      exact ⟨rfl, rfl⟩
    · have e3 : (n == 3) = false := by rw [beq_eq_false_iff_ne]; exact h3
      rw [if_neg h6, if_neg h3]
      go_enter Tryd.func39, Tryd.ntmps39
      go_wp2_with fail
      go_ret
      exact ⟨rfl, rfl⟩
set_option maxHeartbeats 2000000 in
set_option maxRecDepth 100000 in
theorem operand_c (i : Nat) (u0 u1 u2 u4 : Value) (g off m c : Nat) (yk yn yp : Int) (ys : ByteArray) (ya : Option Addr) (ym yc : Nat) (w : World) (hi : i < m)
    (h0 : w.cell? ⟨g, off + i * 5, none⟩ = some (.int .i64 yk)) (h1 : w.cell? ⟨g, off + i * 5 + 1, none⟩ = some (.int .i64 yn)) (h2 : w.cell? ⟨g, off + i * 5 + 2, none⟩ = some (.string ys)) (h3 : w.cell? ⟨g, off + i * 5 + 3, none⟩ = some (.slice ya ym yc)) (h4 : w.cell? ⟨g, off + i * 5 + 4, none⟩ = some (.int .i64 yp))
    :
    Calls Tryd.prog 43 #[.agg #[u0, u1, u2, .slice (some ⟨g, off, none⟩) m c, u4], .int .i64 i] w fun e w' => e = .returned (.agg #[.int .i64 yk, .int .i64 yn, .string ys, .slice ya ym yc, .int .i64 yp]) ∧ Foot (fun _ => False) w w' := by
  have hg : g < w.heap.size := World.block_lt_of_cell? w _ h0
  obtain ⟨x1, x2, x3, x4⟩ := two (Foot.refl (fun _ => False) ((w.alloc (.cells #[u0, u1, u2, .slice (some ⟨g, off, none⟩) m c, u4] 24)).alloc (.cells #[.int .i64 0, .int .i64 0, .string ⟨#[]⟩, .slice none 0 0, .int .i64 0] 24)))
  have HF := Lib.hid x3
  have HA := Lib.hid x2
  have c3 := x1.cell 3
  have q0 := hold x3 h0
  have q1 := hold x3 h1
  have q2 := hold x3 h2
  have q3 := hold x3 h3
  have q4 := hold x3 h4
  have hi1 : (i : Int) < m := by omega
  clear h0 h1 h2 h3 h4 x1 x2 x3 x4
  go_enter Tryd.func43, Tryd.ntmps43
  go_upto_region 1 with fail
  generalize (w.alloc (.cells #[u0, u1, u2, .slice (some ⟨g, off, none⟩) m c, u4] 24)).alloc (.cells #[.int .i64 0, .int .i64 0, .string ⟨#[]⟩, .slice none 0 0, .int .i64 0] 24) = W1 at *
  have c3 : W1.cell? ⟨w.heap.size, 3, none⟩ = some (.slice (some ⟨g, off, none⟩) m c) := c3
  obtain ⟨z0, z1, z2, z3, z4⟩ := cells5 HA.out
  obtain ⟨zf0, zf1, zf2, zf3, zf4⟩ := free5 HA.out
  go_wp2_with fail
  refine bodyPost_ret (v := .agg #[.int .i64 yk, .int .i64 yn, .string ys, .slice ya ym yc, .int .i64 yp]) (by simp [results, Tryd.results43, go_sem, *]) rfl ⟨rfl, foot5 HF.out (by omega) _ _ _ _ _⟩
theorem bat_still {w w1 : World} {T e : TypeId} {B b : Nat} {p : Value} {xs : List Value} (h : Go.Lib.BuilderAtF T e B b p xs w) (hf : Foot (fun _ => False) w w1) : Go.Lib.BuilderAtF T e B b p xs w1 := by
  obtain ⟨hB, v, hb, hown, hne⟩ := h
  refine ⟨hB, v, ?_, ?_, hne⟩
  · rw [hf.block b (Array.getElem?_eq_some_iff.1 hb).1 id]; exact hb
  · refine hown.kept (row := none) ⟨hf.os, hf.tape, hf.output, hf.size, fun k hk _ => hf.block k hk id⟩ ?_
    by_cases h : v.ownBlock = none
    · exact .inl h
    · exact .inr h
/-- The builder at block b, l written; what is not its own is kept. -/
def BK (w : World) (b : Nat) (l : Bytes) : Prop := Go.Lib.IsBuilderF 60 5 b b (Go.Lib.byteCells l) w
structure FK (b : Nat) (w w' : World) : Prop where
  below : Below b w w'
  others : Go.Lib.OthersKept 5 (some b) w w'
theorem FK.refl (b : Nat) (w : World) : FK b w w := ⟨Below.refl b w, Go.Lib.OthersKept.refl _ _ w⟩
theorem FK.trans {b : Nat} {w w1 w2 : World} (h : FK b w w1) (h2 : FK b w1 w2) : FK b w w2 := ⟨h.below.trans h2.below, h.others.trans h2.others⟩
theorem FK.of {b : Nat} {w w1 : World} (hb : b ≤ w.heap.size) (h : Foot (fun _ => False) w w1) : FK b w w1 := ⟨h.below (fun _ _ h => h.elim) hb, fun k o hk _ _ => by
  rw [h.block k (Array.getElem?_eq_some_iff.1 hk).1 id]; exact hk⟩
theorem FK.foot {b : Nat} {w w1 : World} (h : FK b w w1) : Foot (fun k => b ≤ k) w w1 := Foot.ofBelow h.below fun _ _ h => h
theorem FK.at_ {b g : Nat} {t : TypeId} {cs : Array Value} {w w1 : World} (h : FK b w w1) (hA : At w g t cs) (hg : g ≠ b) (ht : t ≠ 5) : At w1 g t cs :=
  h.others g _ hA (by simp [hg]) (fun c fz e => by injection e with e1 e2; exact ht e2)
theorem BK.lt {w : World} {b : Nat} {l : Bytes} (h : BK w b l) : b < w.heap.size := by rcases h with h | h <;> exact h.lt
theorem BK.still {w w1 : World} {b : Nat} {l : Bytes} (h : BK w b l) (hf : Foot (fun _ => False) w w1) : BK w1 b l := by
  unfold BK Go.Lib.IsBuilderF at *
  rcases h with h | h
  · exact .inl (bat_still h hf)
  · exact .inr (bat_still h hf)
theorem Vars.keepB {w w' : World} (h : Vars w) (hf : Foot (fun k => w.heap.size ≤ k) w w') : Vars w' := by
  have key : ∀ {n : String} {cs : Array Value}, w.var? Tryd.prog n = some cs → w'.var? Tryd.prog n = some cs := by
    intro n cs h
    unfold World.var? at h ⊢
    cases hg : (Tryd.prog).globalNamed n with
    | none => simp [hg] at h
    | some g =>
      simp only [hg, Option.bind_some] at h ⊢
      have hlt : g < w.heap.size := by
        rcases Nat.lt_or_ge g w.heap.size with h' | h'
        · exact h'
        · simp [Array.getElem?_eq_none h'] at h
      rw [hf.block g hlt (by omega)]
      exact h
  obtain ⟨⟨tp, p, h1⟩, h2⟩ := h
  exact ⟨⟨tp, p, key h1⟩, key h2⟩
theorem cells_app (l t : Bytes) : Go.Lib.byteCells (l ++ t) = Go.Lib.byteCells l ++ Go.Lib.byteCells t := by unfold Go.Lib.byteCells; rw [List.map_append]
theorem cells_len (l : Bytes) : (Go.Lib.byteCells l).length = l.length := by unfold Go.Lib.byteCells; rw [List.length_map]
theorem wb_c (b : Nat) (l : Bytes) (c : UInt8) (w : World) (h : BK w b l) (hl : l.length ≤ 1000000000) : Calls Tryd.prog 41 #[.pointer (some ⟨b, 0, none⟩), .int .u8 c.toNat] w fun e w' => e = .returned .nilIface ∧ BK w' b (l ++ [c]) ∧ FK b w w' := by
  refine (Any.Builder_WriteByte_k Tryd.layWB Tryd.layWBX b b (Go.Lib.byteCells l) c.toNat w h (by rw [cells_len]; omega) (Nat.le_of_lt h.lt)).mono ?_
  rintro e w' ⟨rfl, h1, h2, h3⟩
  exact ⟨rfl, .inr (by rw [cells_app]; exact h1), h2, h3⟩
theorem ws_c (b : Nat) (l t : Bytes) (w : World) (h : BK w b l) (hl : l.length ≤ 1000000000) (ht : t.length ≤ 1000000000) : Calls Tryd.prog 42 #[.pointer (some ⟨b, 0, none⟩), .string (mk t)] w fun e w' => e = .returned (.tuple #[.int .i64 (mk t).size, .nilIface]) ∧ BK w' b (l ++ t) ∧ FK b w w' := by
  refine (Any.Builder_WriteString_k Tryd.layWS Tryd.layWSX b b (Go.Lib.byteCells l) (mk t) w h (by rw [cells_len, mk_size]; omega) (Nat.le_of_lt h.lt)).mono ?_
  rintro e w' ⟨rfl, h1, h2, h3⟩
  exact ⟨rfl, .inr (by rw [cells_app]; exact h1), h2, h3⟩
theorem bst_c (b : Nat) (l : Bytes) (w : World) (h : BK w b l) : Calls Tryd.prog 25 #[.pointer (some ⟨b, 0, none⟩)] w fun e w' => e = .returned (.string (mk l)) ∧ FK b w w' := by
  refine (Any.Builder_String_any_k Tryd.laySt Tryd.layStX b b l w h (Nat.le_of_lt h.lt)).mono ?_
  rintro e w' ⟨rfl, h1, h2, h3⟩
  exact ⟨rfl, h2, h3⟩
theorem Tr.blk {w : World} {P : Nat → Prop} {u0 u1 u2 u4 : Value} {a : Option Addr} {n c : Nat} {x : Ex} (h : Tr w P (.agg #[u0, u1, u2, .slice a n c, u4]) x) : ∀ y, a = some y → P y.block ∧ y.block < w.heap.size := by
  obtain ⟨d0, d1, d2, d3, d4, y0, y1, y2, y3, y4, h1, h2, r0, r1, r2, r3, r4⟩ := h.out
  simp only [Value.agg.injEq, Array.mk.injEq, List.cons.injEq, and_true] at h2
  obtain ⟨rfl, rfl, rfl, rfl, rfl⟩ := h2
  obtain ⟨k, n', s, kids, p⟩ := x
  rw [fields] at h1
  simp only [List.cons.injEq, and_true] at h1
  obtain ⟨rfl, rfl, rfl, rfl, rfl⟩ := h1
  cases r3 with
  | row _ _ _ _ _ _ _ hb => exact hb
theorem wordX_ok {k n : Int} {s : Bytes} (h : 1 ≤ k ∧ k ≤ 19) : wordX k n s = wordD k n s := by
  unfold wordX wordD
  by_cases h1 : k = 1
  · simp only [h1, if_true]
  by_cases h2 : k = 2
  · simp only [h2]; rfl
  by_cases h3 : k = 3
  · simp only [h3]; rfl
  by_cases h4 : k = 4
  · simp only [h4]; rfl
  by_cases h5 : k = 5
  · simp only [h5]; rfl
  by_cases h6 : k = 6
  · simp only [h6]; rfl
  simp only [h1, h2, h3, h4, h5, h6, if_false]
  unfold sgT
  rw [if_pos (by omega)]
end Go.Proofs.YtdibkgjldmepcaaDoor.Xp
