/- The contract of the reference for timers: Arm. -/
import Derived.Test.YtjpepnokijbhgaaRef5b
import Derived.Deep.RegionHeld3
namespace Go.Proofs.Ytjpepnokijbhgaa.Ref5
open Go.RowKit Mem MapK Tim MapF Whl
set_option linter.unusedVariables false

theorem Arm_no (q : Nat) (a : Option Addr) (c : Nat) (L : TRows) (i t n : Int) (w : World) (h : RefAt w q a c L) (hm : ¬ may (i, t) n) :
    Calls Try.prog 11 #[.pointer (some ⟨q, 0, none⟩), .agg #[.int .i64 i, .int .i64 t], .int .i64 n] w fun e w' => e = .returned (.int .i64 1) ∧ Foot (fun _ => False) w w' := by
  clear h
  unfold may at hm
  simp only at hm
  by_cases q1 : i < 0
  · clear hm
    go_enter Try.func11, Try.ntmps11
    go_wp2_with fail
    go_ret
    exact ⟨rfl, (Foot.refl _ w).alloc _⟩
  by_cases q2 : t < 0
  · have q1' := Int.not_lt.1 q1
    clear hm q1
    go_enter Try.func11, Try.ntmps11
    go_wp2_with fail
    go_ret
    exact ⟨rfl, (Foot.refl _ w).alloc _⟩
  by_cases q3 : n < 1
  · have q1' := Int.not_lt.1 q1
    have q2' := Int.not_lt.1 q2
    clear hm q1 q2
    go_enter Try.func11, Try.ntmps11
    go_wp2_with fail
    go_ret
    exact ⟨rfl, (Foot.refl _ w).alloc _⟩
  have q4 : 65536 < n := by omega
  have q1' := Int.not_lt.1 q1
  have q2' := Int.not_lt.1 q2
  have q3' : 1 ≤ n := by omega
  clear hm q1 q2 q3
  go_enter Try.func11, Try.ntmps11
  go_wp2_with fail
  go_ret
  exact ⟨rfl, (Foot.refl _ w).alloc _⟩

theorem length_insTo (f : F) (n : Int) (L : TRows) : (insTo f n L).length ≤ L.length + 1 := by
  unfold insTo
  split
  · rw [(ins_perm _ _).length_eq, List.length_cons]; exact Nat.le_refl _
  · exact Nat.le_succ _
theorem ins_put {f : F} {n : Int} {L : TRows} (h : put f n L) : insTo f n L = ins (f, n) L := if_pos h
theorem ins_out {f : F} {n : Int} {L : TRows} (h : ¬ put f n L) : insTo f n L ++ [(f, n)] = ins (f, n) L := by
  rw [ins_not h]
  unfold insTo
  rw [if_neg h]

/-- What the region that asks for the place holds: nothing has turned. -/
theorem hold5 {w0 wr w2 : World} (hF : Foot (fun _ => False) wr w2) (h : Hid (Foot (fun _ => False) w0 wr)) : Hid (Foot (fun _ => False) w0 w2) := Lib.hid (h.out.trans hF fun _ _ h => h)

theorem hold1 {w w2 : World} {p : Addr} {v : Value} (h : w.cell? p = some v) (hF : Foot (fun _ => False) w w2) : w2.cell? p = some v := (hF.cell (World.block_lt_of_cell? _ _ h) id).trans h
/-- The cells that a round reads. -/
structure Cells6 (w : World) (q bx g o m c : Nat) (i t x z y : Int) : Prop where
  c0 : w.cell? ⟨q, 0, none⟩ = some (.slice (some ⟨g, o, none⟩) m c)
  b1 : w.cell? ⟨bx, 0, none⟩ = some (.int .i64 i)
  b2 : w.cell? ⟨bx, 1, none⟩ = some (.int .i64 t)
section
variable {w w2 : World} {q bx g o m c j : Nat} {i t x z y : Int}
theorem Cells6.still (h : Cells6 w q bx g o m c i t x z y) (hF : Foot (fun _ => False) w w2) : Cells6 w2 q bx g o m c i t x z y := ⟨hold1 h.c0 hF, hold1 h.b1 hF, hold1 h.b2 hF⟩
end
theorem hold6 {w w2 : World} {p1 p2 p3 p4 p5 : Addr} {v1 v2 v3 v4 v5 : Value} (h1 : w.cell? p1 = some v1) (h2 : w.cell? p2 = some v2) (h3 : w.cell? p3 = some v3) (h4 : w.cell? p4 = some v4) (h5 : w.cell? p5 = some v5) (h : Hid (Foot (fun _ => False) w w2)) :
    w2.cell? p1 = some v1 ∧ w2.cell? p2 = some v2 ∧ w2.cell? p3 = some v3 ∧ w2.cell? p4 = some v4 ∧ w2.cell? p5 = some v5 ∧ Hid (Foot (fun _ => False) w w2) :=
  ⟨hold1 h1 h.out, hold1 h2 h.out, hold1 h3 h.out, hold1 h4 h.out, hold1 h5 h.out, h⟩

set_option maxHeartbeats 2000000 in
theorem Arm_yes (q : Nat) (a : Option Addr) (c : Nat) (L : TRows) (i t n : Int) (w : World) (h : RefAt w q a c L) (hi : I64 i) (ht : I64 t) (hm : may (i, t) n) (hlen : L.length ≤ 900000) :
    Calls Try.prog 11 #[.pointer (some ⟨q, 0, none⟩), .agg #[.int .i64 i, .int .i64 t], .int .i64 n] w fun e w' => e = .returned (.int .i64 0) ∧
      ∃ a' c', RefAt w' q a' c' (armL (i, t) n L) ∧ Moved w (.slice a L.length c) (.slice a' (armL (i, t) n L).length c') ∧ Foot (fun k => k = q) w w' := by
  have HG := Lib.hid (h.good.arm hm ⟨hi.2, ht.2⟩)
  obtain ⟨⟨m1, m2⟩, m3, m4⟩ := hm
  simp only at m1 m2 m3 m4
  have HF0 : Hid (Foot (fun _ => False) w (w.alloc (.cells #[.int .i64 i, .int .i64 t] 31))) := Lib.hid ((Foot.refl _ w).alloc _)
  have HA := Lib.hid (At.new w 31 #[.int .i64 i, .int .i64 t])
  obtain ⟨i0, hi0, hz0, hz1, hz2⟩ := info_parts info_T
  have hq := h.at_.lt
  have HLo := Lib.hid (length_out L (f := (i, t)))
  have hml : (out L (i, t)).length ≤ 900000 := Nat.le_trans (length_out L) hlen
  have HC := Lib.hid fun w0 h0 => Cancel q a c L i t w0 h0 (by omega)
  have HR := Lib.hid (h.still HF0.out)
  clear h hi ht
  go_enter Try.func11, Try.ntmps11
  go_wp2_with fail
  refine (HC.out _ HR.out).mono ?_
  rintro e w1 ⟨rfl, a1, c1, hr1, hm1, hf1⟩
  have HR1 := Lib.hid hr1
  have HA1 := Lib.hid (HA.out.keep hf1 (by omega))
  have HF1 : Hid (Foot (fun k => k = q) w w1) := Lib.hid ((HF0.out.mono fun _ _ h => h.elim).trans hf1 fun _ _ h => h)
  have HM1 : Hid (Moved w (.slice a L.length c) (.slice a1 (out L (i, t)).length c1)) := Lib.hid fun g hg => by
    rcases hm1 g hg with h1 | h1
    · exact .inl h1
    · exact .inr (Nat.le_trans HF0.out.size h1)
  clear hr1 hm1 hf1 HC HR HA HF0
  obtain ⟨hlc, hcm⟩ := HR1.out.le
  unfold maxLen at hcm
  obtain ⟨M, hM⟩ : ∃ M, M = out L (i, t) := ⟨_, rfl⟩
  have HMe := Lib.hid hM
  rw [← hM] at HR1 hlc hml
  obtain ⟨m, hl⟩ : ∃ m, m = M.length := ⟨_, rfl⟩
  have HL := Lib.hid hl.symm
  rw [← hl] at hlc hml
  clear hM hl
  go_wp2_with fail
  go_loopw [7, 8, 9] (fun v b k wr => ∃ j : Nat, j ≤ m ∧ k = .int .i64 j ∧ b = .bool (decide (put (i, t) n (M.take j))) ∧ Hid (Out w1 wr v (insTo (i, t) n (M.take j)))) (fun _ _ k _ => m - (intOf k).toNat)
  case atStart => exact ⟨0, Nat.zero_le _, rfl, by rw [List.take_zero, decide_eq_false (put_nil _ _)], Lib.hid (by rw [List.take_zero, insTo_nil]; exact Out.nil (Foot.refl _ _))⟩
  case round =>
    obtain ⟨j, hj, rfl, rfl, HO⟩ := hrel
    have HRr := Lib.hid (HR1.out.still HO.out.foot)
    have HAr := Lib.hid (HA1.out.keep HO.out.foot id)
    have c0 : wr.cell? ⟨q, 0, none⟩ = some (.slice a1 m c1) := by have := HRr.out.at_.cell 0; rw [HL.out] at this; exact this
    have b1 : wr.cell? ⟨w.heap.size, 0, none⟩ = some (.int .i64 i) := HAr.out.cell 0
    have b2 : wr.cell? ⟨w.heap.size, 1, none⟩ = some (.int .i64 t) := HAr.out.cell 1
    by_cases hjn : j < m
    · obtain ⟨x, z, y, hk⟩ := HRr.out.some (k := j) (by rw [HL.out]; exact hjn)
      obtain ⟨g, off, rfl, d0', d1', d2'⟩ := HR1.out.row hk
      have d0 := hold1 d0' HO.out.foot
      have d1 := hold1 d1' HO.out.foot
      have d2 := hold1 d2' HO.out.foot
      have HK := Lib.hid hk
      have D0 := Lib.hid d0'; have D1 := Lib.hid d1'; have D2 := Lib.hid d2'
      have C0 : Hid (w1.cell? ⟨q, 0, none⟩ = some (.slice (some ⟨g, off, none⟩) m c1)) := Lib.hid (by have := HR1.out.at_.cell 0; rw [HL.out] at this; exact this)
      have B1 : Hid (w1.cell? ⟨w.heap.size, 0, none⟩ = some (.int .i64 i)) := Lib.hid (HA1.out.cell 0)
      have B2 : Hid (w1.cell? ⟨w.heap.size, 1, none⟩ = some (.int .i64 t)) := Lib.hid (HA1.out.cell 1)
      clear d0' d1' d2'
      have HLn : Hid ((insTo (i, t) n (M.take j)).length + 2 ≤ 1000000) := Lib.hid (by
        have h1 := length_insTo (i, t) n (M.take j)
        rw [List.length_take] at h1
        omega)
      clear hk
      by_cases hp : put (i, t) n (M.take j)
      · have HN : Hid (insTo (i, t) n (M.take (j + 1)) = insTo (i, t) n (M.take j) ++ [((x, z), y)]) := Lib.hid (insTo_was HK.out hp)
        have HB : Hid (decide (put (i, t) n (M.take (j + 1))) = true) := Lib.hid (decide_eq_true ((put_next HK.out).2 (.inl hp)))
        rw [decide_eq_true hp]
        clear hp
        go_wp2_with fail
        go_quiet (fail)
        go_wp2_with (at_builtin; refine wpList_append rfl (.tmp 58) (.tmp 66) 26 rfl 57 i0 (.agg #[.int .i64 0, .int .i64 0, .int .i64 0]) 3 Try.underlying26 hi0 hz0 hz1 rfl rfl ((HO.out.items.drewN nq).alloc _) ⟨wr.heap.size, 0, none⟩ 1 1 [.int .i64 x, .int .i64 z, .int .i64 y] rfl rfl (cells3_new _ _ _ _ _) (by simp [Value.oneCell']) (by omega) (by have := HLn.out; unfold maxLen; omega) (by have := HLn.out; rw [hz2]; omega) ?_)
        intro a' c' w4 hI4 hF4 hM4
        have HO4 := Lib.hid ((HO.out.still (((Foot.refl (fun _ => False) wr).drewN nq).alloc _)).push hI4 hF4 hM4)
        clear hI4 hF4 hM4
        go_wp2_with fail
        go_roundw
        case rel => exact ⟨j + 1, by omega, by go_num, by rw [HB.out], by rw [HN.out]; exact HO4⟩
        case measure => simp [intOf]; omega
      · have CL := Lib.hid fun w => Less (i, t) (x, z) w
        have HFr : Hid (Foot (fun _ => False) wr wr.drew) := Lib.hid (Foot.refl _ wr).drew
        rw [decide_eq_false hp]
        by_cases hl : lt (i, t) (x, z)
        · have HN : Hid (insTo (i, t) n (M.take (j + 1)) = insTo (i, t) n (M.take j) ++ [((i, t), n), ((x, z), y)]) := Lib.hid (insTo_now HK.out hp hl)
          have HB : Hid (decide (put (i, t) n (M.take (j + 1))) = true) := Lib.hid (decide_eq_true ((put_next HK.out).2 (.inr hl)))
          rw [decide_eq_true hl] at CL
          clear hp hl
          go_wp2_with fail
          go_region_held3 (fun w' => w'.cell? ⟨q, 0, none⟩ = some (.slice (some ⟨g, off, none⟩) m c1) ∧ w'.cell? ⟨w.heap.size, 0, none⟩ = some (.int .i64 i) ∧ w'.cell? ⟨w.heap.size, 1, none⟩ = some (.int .i64 t) ∧ w'.cell? ⟨g, off + j * 3, none⟩ = some (.int .i64 x) ∧ w'.cell? ⟨g, off + j * 3 + 1, none⟩ = some (.int .i64 z) ∧ Hid (Foot (fun _ => False) wr w'))
            (exact hold6 c0 b1 b2 d0 d1 (by assumption))
            (first | (go_at_call 24; (with_reducible refine (CL.out _).mono ?_); rintro e wl ⟨rfl, hFl⟩; have El := hold5 hFl (by assumption : Hid (Foot (fun _ => False) wr _))))
          have HOl := Lib.hid (HO.out.still El.out)
          clear c0 b1 b2 d0 d1 d2
          have c0 := hold1 C0.out HOl.out.foot
          have b1 := hold1 B1.out HOl.out.foot
          have b2 := hold1 B2.out HOl.out.foot
          have d0 := hold1 D0.out HOl.out.foot
          have d1 := hold1 D1.out HOl.out.foot
          have d2 := hold1 D2.out HOl.out.foot
          go_wp2_with (first
            | (at_builtin; refine wpList_append rfl (.tmp 52) (.tmp 56) 26 rfl 57 i0 (.agg #[.int .i64 0, .int .i64 0, .int .i64 0]) 3 Try.underlying26 hi0 hz0 hz1 rfl rfl (HOl.out.items.alloc _) ⟨wl.heap.size, 0, none⟩ 1 1 [.int .i64 i, .int .i64 t, .int .i64 n] rfl rfl (cells3_new _ _ _ _ _) (by simp [Value.oneCell']) (by omega) (by have := HLn.out; unfold maxLen; omega) (by have := HLn.out; rw [hz2]; omega) ?_
               intro a4 c4 w4 hI4 hF4 hM4
               have HO4 := Lib.hid ((HOl.out.still ((Foot.refl (fun _ => False) wl).alloc _)).push hI4 hF4 hM4)
               clear hI4 hF4 hM4 c0 b1 b2 d0 d1 d2
               have c0 := hold1 C0.out HO4.out.foot
               have b1 := hold1 B1.out HO4.out.foot
               have b2 := hold1 B2.out HO4.out.foot
               have d0 := hold1 D0.out HO4.out.foot
               have d1 := hold1 D1.out HO4.out.foot
               have d2 := hold1 D2.out HO4.out.foot)
            | (at_builtin; refine wpList_append rfl (.tmp 58) (.tmp 66) 26 rfl 57 i0 (.agg #[.int .i64 0, .int .i64 0, .int .i64 0]) 3 Try.underlying26 hi0 hz0 hz1 rfl rfl (HO4.out.items.alloc _) ⟨w4.heap.size, 0, none⟩ 1 1 [.int .i64 x, .int .i64 z, .int .i64 y] rfl rfl (cells3_new _ _ _ _ _) (by simp [Value.oneCell']) (by omega) (by have := HLn.out; unfold maxLen; (try simp only [List.length_append, List.length_cons, List.length_nil]); omega) (by have := HLn.out; rw [hz2]; (try simp only [List.length_append, List.length_cons, List.length_nil]); omega) ?_
               intro a' c' w5 hI5 hF5 hM5
               have HO5 := Lib.hid ((HO4.out.still ((Foot.refl (fun _ => False) w4).alloc _)).push hI5 hF5 hM5)
               clear hI5 hF5 hM5))
          go_roundw
          case rel => exact ⟨j + 1, by omega, by go_num, by rw [HB.out], by rw [HN.out, show insTo (i, t) n (M.take j) ++ [((i, t), n), ((x, z), y)] = (insTo (i, t) n (M.take j) ++ [((i, t), n)]) ++ [((x, z), y)] by simp]; have h5 := HO5; rw [List.length_append] at h5; exact h5⟩
          case measure => simp [intOf]; omega
        · have HN : Hid (insTo (i, t) n (M.take (j + 1)) = insTo (i, t) n (M.take j) ++ [((x, z), y)]) := Lib.hid (insTo_not HK.out hp hl)
          have HB : Hid (decide (put (i, t) n (M.take (j + 1))) = false) := Lib.hid (decide_eq_false fun h => ((put_next HK.out).1 h).elim hp hl)
          rw [decide_eq_false hl] at CL
          clear hp hl
          go_wp2_with fail
          go_region_held3 (fun w' => w'.cell? ⟨q, 0, none⟩ = some (.slice (some ⟨g, off, none⟩) m c1) ∧ w'.cell? ⟨w.heap.size, 0, none⟩ = some (.int .i64 i) ∧ w'.cell? ⟨w.heap.size, 1, none⟩ = some (.int .i64 t) ∧ w'.cell? ⟨g, off + j * 3, none⟩ = some (.int .i64 x) ∧ w'.cell? ⟨g, off + j * 3 + 1, none⟩ = some (.int .i64 z) ∧ Hid (Foot (fun _ => False) wr w'))
            (exact hold6 c0 b1 b2 d0 d1 (by assumption))
            (first | (go_at_call 24; (with_reducible refine (CL.out _).mono ?_); rintro e wl ⟨rfl, hFl⟩; have El := hold5 hFl (by assumption : Hid (Foot (fun _ => False) wr _))))
          have HOl := Lib.hid (HO.out.still El.out)
          clear c0 b1 b2 d0 d1 d2
          have c0 := hold1 C0.out HOl.out.foot
          have b1 := hold1 B1.out HOl.out.foot
          have b2 := hold1 B2.out HOl.out.foot
          have d0 := hold1 D0.out HOl.out.foot
          have d1 := hold1 D1.out HOl.out.foot
          have d2 := hold1 D2.out HOl.out.foot
          go_wp2_with (first
            | (at_builtin; refine wpList_append rfl (.tmp 58) (.tmp 66) 26 rfl 57 i0 (.agg #[.int .i64 0, .int .i64 0, .int .i64 0]) 3 Try.underlying26 hi0 hz0 hz1 rfl rfl (HOl.out.items.alloc _) ⟨wl.heap.size, 0, none⟩ 1 1 [.int .i64 x, .int .i64 z, .int .i64 y] rfl rfl (cells3_new _ _ _ _ _) (by simp [Value.oneCell']) (by omega) (by have := HLn.out; unfold maxLen; (try simp only [List.length_append, List.length_cons, List.length_nil]); omega) (by have := HLn.out; rw [hz2]; (try simp only [List.length_append, List.length_cons, List.length_nil]); omega) ?_
               intro a' c' w5 hI5 hF5 hM5
               have HO5 := Lib.hid ((HOl.out.still ((Foot.refl (fun _ => False) wl).alloc _)).push hI5 hF5 hM5)
               clear hI5 hF5 hM5))
          go_roundw
          case rel => exact ⟨j + 1, by omega, by go_num, by rw [HB.out], by rw [HN.out]; exact HO5⟩
          case measure => simp [intOf]; omega
    · obtain rfl : j = m := by omega
      have hT : M.take j = M := List.take_of_length_le (by rw [HL.out]; exact Nat.le_refl _)
      rw [hT] at HO
      rw [hT]
      have hfz : wr.frozen? ⟨q, 0, none⟩ = false := HRr.out.at_.free 0
      have HLn : Hid ((insTo (i, t) n M).length + 1 ≤ 1000000) := Lib.hid (by
        have h1 := length_insTo (i, t) n M
        have := HL.out
        omega)
      by_cases hp : put (i, t) n M
      · have HN : Hid (insTo (i, t) n M = armL (i, t) n L) := Lib.hid (by rw [ins_put hp, HMe.out]; rfl)
        rw [decide_eq_true hp]
        rw [HN.out] at HO
        obtain ⟨a2, c2', hv, hle2, hmx2⟩ := HO.out.items.shape
        subst hv
        clear hT hp hjn
        go_wp2_with fail
        go_ret
        obtain ⟨h1, h2⟩ := HO.out.lay HR1.out HG.out
        exact ⟨rfl, a2, c2', h1, fun g hg => .inr (Nat.le_trans HF1.out.size (HO.out.own g hg)), HF1.out.trans h2 fun _ _ h => h⟩
      · have HN : Hid (insTo (i, t) n M ++ [((i, t), n)] = armL (i, t) n L) := Lib.hid (by rw [ins_out hp, HMe.out]; rfl)
        rw [decide_eq_false hp]
        clear hT hp hjn
        go_wp2_with (first
          | (at_builtin; refine wpList_append rfl (.tmp 70) (.tmp 74) 26 rfl 57 i0 (.agg #[.int .i64 0, .int .i64 0, .int .i64 0]) 3 Try.underlying26 hi0 hz0 hz1 rfl rfl (HO.out.items.alloc _) ⟨wr.heap.size, 0, none⟩ 1 1 [.int .i64 i, .int .i64 t, .int .i64 n] rfl rfl (cells3_new _ _ _ _ _) (by simp [Value.oneCell']) (by omega) (by have := HLn.out; unfold maxLen; omega) (by have := HLn.out; rw [hz2]; omega) ?_
             intro a2 c2' w4 hI4 hF4 hM4
             have HO4 : Hid (Out w1 w4 (.slice a2 ((insTo (i, t) n M).length + 1) c2') (insTo (i, t) n M ++ [((i, t), n)])) := Lib.hid ((HO.out.still ((Foot.refl (fun _ => False) wr).alloc _)).push hI4 hF4 hM4)
             have c04 := (HR1.out.still HO4.out.foot).at_.cell 0
             have hfz4 : w4.frozen? ⟨q, 0, none⟩ = false := (HR1.out.still HO4.out.foot).at_.free 0
             clear hI4 hF4 hM4))
        go_ret
        have hO := HO4.out
        have hlen5 : (insTo (i, t) n M).length + 1 = (armL (i, t) n L).length := by rw [← HN.out, List.length_append]; rfl
        rw [HN.out] at hO
        rw [hlen5] at hO ⊢
        obtain ⟨h1, h2⟩ := hO.lay HR1.out HG.out
        exact ⟨rfl, a2, c2', h1, fun g hg => .inr (Nat.le_trans HF1.out.size (hO.own g hg)), HF1.out.trans h2 fun _ _ h => h⟩
end Go.Proofs.Ytjpepnokijbhgaa.Ref5
