/- The contracts of the reference for timers: Less, Cancel, Left, Clear, Next. -/
import Derived.Test.YtjpepnokijbhgaaTick
namespace Go.Proofs.Ytjpepnokijbhgaa.Ref5
open Go.RowKit Mem MapK Tim MapF Whl
set_option linter.unusedVariables false

theorem info_T : (Try.prog.info? 57).map (fun i => (i.zero, i.size, i.bytes)) = some (some (.agg #[.int .i64 0, .int .i64 0, .int .i64 0]), 3, 24) := by kernel_rfl

/-- The reference's Wheel at block q. -/
structure RefAt (w : World) (q : Nat) (a : Option Addr) (c : Nat) (L : TRows) : Prop where
  at_ : At w q 28 #[.slice a L.length c]
  items : Items w 57 3 (.slice a L.length c) L.length (flat3 L)
  own : ∀ g, (Value.slice a L.length c).ownBlock = some g → g ≠ q
  good : Fine L
section
variable {w w1 : World} {q : Nat} {a : Option Addr} {c : Nat} {L : TRows} {S : Nat → Prop}
theorem RefAt.keep (h : RefAt w q a c L) (hf : Foot S w w1) (hq : ¬ S q) (hs : ∀ g, (Value.slice a L.length c).ownBlock = some g → ¬ S g) : RefAt w1 q a c L := ⟨h.at_.keep hf hq, h.items.keep hf hs, h.own, h.good⟩
theorem RefAt.still (h : RefAt w q a c L) (hf : Foot (fun _ => False) w w1) : RefAt w1 q a c L := h.keep hf id fun _ _ => id
theorem RefAt.le (h : RefAt w q a c L) : L.length ≤ c ∧ c ≤ maxLen := by
  obtain ⟨a', c', hv, h1, h2⟩ := h.items.shape
  injection hv with _ _ e
  subst e
  exact ⟨h1, h2⟩
theorem RefAt.row (h : RefAt w q a c L) {k : Nat} {i t y : Int} (hk : L[k]? = some ((i, t), y)) : ∃ g off, a = some ⟨g, off, none⟩ ∧ w.cell? ⟨g, off + k * 3, none⟩ = some (.int .i64 i) ∧ w.cell? ⟨g, off + k * 3 + 1, none⟩ = some (.int .i64 t) ∧ w.cell? ⟨g, off + k * 3 + 2, none⟩ = some (.int .i64 y) := by
  have hkl : k < L.length := (List.getElem?_eq_some_iff.1 hk).1
  obtain ⟨g, off, cap, hv, _, _, _, hc⟩ := h.items.cell (by omega)
  obtain ⟨h1, h2, h3⟩ := flat3_get L k _ hk
  refine ⟨g, off, by injection hv, ?_, ?_, ?_⟩
  · rw [hc _ (by omega), h1]
  · rw [Nat.add_assoc, hc _ (by omega), h2]
  · rw [Nat.add_assoc, hc _ (by omega), h3]
theorem RefAt.keys (h : RefAt w q a c L) {k : Nat} {i t y : Int} (hk : L[k]? = some ((i, t), y)) : (I64 i ∧ I64 t) ∧ (1 ≤ y ∧ y ≤ 65536) := by
  have hm := List.mem_of_getElem? hk
  have h1 := h.good.keys _ hm
  have h2 := h.good.vals _ hm
  simp only at h1 h2
  unfold I64
  omega
theorem RefAt.some (h : RefAt w q a c L) {k : Nat} (hk : k < L.length) : ∃ i t y, L[k]? = .some ((i, t), y) := ⟨_, _, _, List.getElem?_eq_getElem hk⟩
theorem RefAt.new (w : World) (a : Option Addr) : RefAt (w.alloc (.cells #[.slice none 0 0] 28)) w.heap.size none 0 [] :=
  ⟨At.new _ _ _, Items.nil _ _ _, fun g hg => by simp [Value.ownBlock] at hg, Fine.nil⟩
end

/-- A list under way: its block is none of those of before. -/
structure Out (W wr : World) (v : Value) (M : TRows) : Prop where
  items : Items wr 57 3 v M.length (flat3 M)
  own : ∀ g, v.ownBlock = some g → W.heap.size ≤ g
  foot : Foot (fun _ => False) W wr
section
variable {W wr w2 w3 : World} {v v' : Value} {M : TRows} {i t y : Int}
theorem Out.nil {W w0 : World} (hf : Foot (fun _ => False) W w0) : Out W w0 (.slice none 0 0) [] := ⟨Items.nil _ _ _, fun g hg => by simp [Value.ownBlock] at hg, hf⟩
theorem Out.still (h : Out W wr v M) (hf : Foot (fun _ => False) wr w2) : Out W w2 v M := ⟨h.items.keep hf fun _ _ => id, h.own, h.foot.trans hf fun _ _ h => h⟩
theorem Out.push (h : Out W wr v M) (hi : Items w3 57 3 v' (M.length + 1) (flat3 M ++ [.int .i64 i, .int .i64 t, .int .i64 y])) (hf : Foot (fun k => v.ownBlock = some k) wr w3) (hm : Moved wr v v') : Out W w3 v' (M ++ [((i, t), y)]) :=
  ⟨by rw [List.length_append, flat3_append]; exact hi, fun g hg => by
    rcases hm g hg with h1 | h1
    · exact h.own g h1
    · exact Nat.le_trans h.foot.size h1, h.foot.trans hf fun k hk e => by have := h.own k e; omega⟩
/-- It is laid into the Wheel. -/
theorem Out.lay {q : Nat} {a a' : Option Addr} {c c' : Nat} {L : TRows} (h : Out W wr (.slice a' M.length c') M) (hr : RefAt W q a c L) (hg : Fine M) : RefAt (wr.setCell ⟨q, 0, none⟩ (.slice a' M.length c')) q a' c' M ∧ Foot (fun k => k = q) W (wr.setCell ⟨q, 0, none⟩ (.slice a' M.length c')) := by
  have hlt := hr.at_.lt
  refine ⟨⟨((hr.at_.keep h.foot id).set 0 _), h.items.setOther (fun e => by have := h.own _ e; simp only at this; omega) _, fun g hg' e => by have := h.own g hg'; omega, hg⟩, Foot.setCell (S := fun k => k = q) (h.foot.mono fun _ _ h => h.elim) (p := ⟨q, 0, none⟩) (fun _ => rfl) _⟩
theorem Out.moved {a' : Option Addr} {c' : Nat} (h : Out W wr (.slice a' M.length c') M) (v : Value) : Moved W v (.slice a' M.length c') := fun g hg => .inr (h.own g hg)
end

theorem Less (a b : F) (w : World) : Calls Try.prog 24 #[.agg #[.int .i64 a.1, .int .i64 a.2], .agg #[.int .i64 b.1, .int .i64 b.2]] w fun e w' => e = .returned (.bool (decide (lt a b))) ∧ Foot (fun _ => False) w w' := by
  obtain ⟨a1, a2⟩ := a
  obtain ⟨b1, b2⟩ := b
  have HF : Hid (Foot (fun _ => False) w ((w.alloc (.cells #[.int .i64 a1, .int .i64 a2] 31)).alloc (.cells #[.int .i64 b1, .int .i64 b2] 31))) := Lib.hid (((Foot.refl _ w).alloc _).alloc _)
  simp only
  by_cases h1 : a1 < b1
  · rw [show decide (lt (a1, a2) (b1, b2)) = true from decide_eq_true (.inl h1)]
    go_enter Try.func24, Try.ntmps24
    go_wp2_with fail
    go_ret
    exact ⟨rfl, HF.out⟩
  · have d1 : decide (a1 < b1) = false := decide_eq_false h1
    by_cases h2 : a1 = b1
    · subst h2
      by_cases h3 : a2 < b2
      · rw [show decide (lt (a1, a2) (a1, b2)) = true from decide_eq_true (.inr ⟨rfl, h3⟩)]
        clear h1 d1
        go_enter Try.func24, Try.ntmps24
        go_wp2_with fail
        go_ret
        exact ⟨rfl, HF.out⟩
      · rw [show decide (lt (a1, a2) (a1, b2)) = false from decide_eq_false fun h => h.elim h1 fun h => h3 h.2]
        have d3 : decide (a2 < b2) = false := decide_eq_false h3
        clear h1 h3 d1
        go_enter Try.func24, Try.ntmps24
        go_wp2_with fail
        refine bodyPost_ret (v := .bool false) (by simp [results, Try.results24, go_sem, *]) rfl ⟨rfl, HF.out⟩
    · have h4 : (a1 == b1) = false := by rw [beq_eq_false_iff_ne]; exact h2
      rw [show decide (lt (a1, a2) (b1, b2)) = false from decide_eq_false fun h => h.elim h1 fun h => h2 h.1]
      clear h1 h2
      go_enter Try.func24, Try.ntmps24
      go_wp2_with fail
      refine bodyPost_ret (v := .bool false) (by simp [results, Try.results24, go_sem, *]) rfl ⟨rfl, HF.out⟩

theorem Cancel (q : Nat) (a : Option Addr) (c : Nat) (L : TRows) (i t : Int) (w : World) (h : RefAt w q a c L) (hlen : L.length ≤ 1000000) :
    Calls Try.prog 13 #[.pointer (some ⟨q, 0, none⟩), .agg #[.int .i64 i, .int .i64 t]] w fun e w' => e = .returned (.bool (decide ((out L (i, t)).length < L.length))) ∧
      ∃ a' c', RefAt w' q a' c' (out L (i, t)) ∧ Moved w (.slice a L.length c) (.slice a' (out L (i, t)).length c') ∧ Foot (fun k => k = q) w w' := by
  have HF0 : Hid (Foot (fun _ => False) w (w.alloc (.cells #[.int .i64 i, .int .i64 t] 31))) := Lib.hid ((Foot.refl _ w).alloc _)
  have HA := Lib.hid (At.new w 31 #[.int .i64 i, .int .i64 t])
  obtain ⟨i0, hi, hz0, hz1, hz2⟩ := info_parts info_T
  have hq := h.at_.lt
  obtain ⟨hlc, hcm⟩ := h.le
  have HR := Lib.hid h
  generalize hl : L.length = n at *
  have HL := Lib.hid hl
  unfold maxLen at hcm
  clear h hl
  go_enter Try.func13, Try.ntmps13
  go_wp2_with fail
  have HR0 := Lib.hid (HR.out.still HF0.out)
  generalize w.alloc (.cells #[.int .i64 i, .int .i64 t] 31) = w0 at *
  go_loopw [5, 6] (fun v k wr => ∃ j : Nat, j ≤ n ∧ k = .int .i64 j ∧ Hid (Out w0 wr v (out (L.take j) (i, t)))) (fun _ k _ => n - (intOf k).toNat)
  case atStart => exact ⟨0, Nat.zero_le _, rfl, Lib.hid (Out.nil (Foot.refl _ _))⟩
  case round =>
    obtain ⟨j, hj, rfl, HO⟩ := hrel
    have HRr := Lib.hid (HR0.out.still HO.out.foot)
    have HAr := Lib.hid (HA.out.keep HO.out.foot id)
    have c0 : wr.cell? ⟨q, 0, none⟩ = some (.slice a n c) := by have := HRr.out.at_.cell 0; rw [HL.out] at this; exact this
    have c1 : wr.cell? ⟨w.heap.size, 0, none⟩ = some (.int .i64 i) := HAr.out.cell 0
    have c2 : wr.cell? ⟨w.heap.size, 1, none⟩ = some (.int .i64 t) := HAr.out.cell 1
    by_cases hjn : j < n
    · obtain ⟨x, z, y, hk⟩ := HRr.out.some (k := j) (by rw [HL.out]; exact hjn)
      obtain ⟨g, off, rfl, d0, d1, d2⟩ := HRr.out.row hk
      have HK := Lib.hid hk
      have heq := eqFired x z i t
      clear hk
      by_cases he : ((x, z) : F) = (i, t)
      · rw [decide_eq_true he] at heq
        have HN : Hid (out (L.take (j + 1)) (i, t) = out (L.take j) (i, t)) := Lib.hid (by rw [out_next HK.out, if_pos he])
        clear he
        go_wp2_with fail
        go_quiet (fail)
        go_wp2_with fail
        go_roundw
        case rel => exact ⟨j + 1, by omega, by go_num, by rw [HN.out]; exact Lib.hid (HO.out.still ((Foot.refl _ wr).drewN _))⟩
        case measure => simp [intOf]; omega
      · rw [decide_eq_false he] at heq
        have HN : Hid (out (L.take (j + 1)) (i, t) = out (L.take j) (i, t) ++ [((x, z), y)]) := Lib.hid (by rw [out_next HK.out, if_neg he])
        have HLn : Hid ((out (L.take j) (i, t)).length + 1 ≤ 1000000) := Lib.hid (by
          have h1 := length_out (L.take j) (f := (i, t))
          rw [List.length_take] at h1
          have := HL.out
          omega)
        clear he
        go_wp2_with fail
        go_quiet (fail)
        go_wp2_with (at_builtin; refine wpList_append rfl (.tmp 27) (.tmp 35) 26 rfl 57 i0 (.agg #[.int .i64 0, .int .i64 0, .int .i64 0]) 3 Try.underlying26 hi hz0 hz1 rfl rfl ((HO.out.items.drewN nq).alloc _) ⟨wr.heap.size, 0, none⟩ 1 1 [.int .i64 x, .int .i64 z, .int .i64 y] rfl rfl (cells3_new _ _ _ _ _) (by simp [Value.oneCell']) (by omega) (by have := HLn.out; unfold maxLen; omega) (by have := HLn.out; rw [hz2]; omega) ?_)
        intro a' c' w4 hI4 hF4 hM4
        have HO4 := Lib.hid ((HO.out.still (((Foot.refl (fun _ => False) wr).drewN nq).alloc _)).push hI4 hF4 hM4)
        clear hI4 hF4 hM4
        go_wp2_with fail
        go_roundw
        case rel => exact ⟨j + 1, by omega, by go_num, by rw [HN.out]; exact HO4⟩
        case measure => simp [intOf]; omega
    · obtain rfl : j = n := by omega
      have hT : L.take j = L := List.take_of_length_le (by rw [HL.out]; exact Nat.le_refl _)
      rw [hT] at HO
      have HLo := Lib.hid (length_out L (f := (i, t)))
      have hfz : wr.frozen? ⟨q, 0, none⟩ = false := HRr.out.at_.free 0
      have HFi : Hid (Fine (out L (i, t))) := Lib.hid (HR.out.good.out _)
      obtain ⟨a2, c2', hv, hle2, hmx2⟩ := HO.out.items.shape
      subst hv
      clear hT hjn
      go_wp2_with fail
      go_ret
      obtain ⟨h1, h2⟩ := HO.out.lay HR0.out HFi.out
      exact ⟨rfl, a2, c2', h1, fun g hg => .inr (Nat.le_trans HF0.out.size (HO.out.own g hg)), (HF0.out.mono fun _ _ h => h.elim).trans h2 fun _ _ h => h⟩
end Go.Proofs.Ytjpepnokijbhgaa.Ref5
