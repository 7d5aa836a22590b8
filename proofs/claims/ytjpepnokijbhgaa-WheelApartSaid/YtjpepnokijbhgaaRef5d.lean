/- The contract of the reference for timers: Tick; two rows of timers compared. -/
import Derived.Test.YtjpepnokijbhgaaRef5c
namespace Go.Proofs.Ytjpepnokijbhgaa.Ref5
open Go.RowKit Mem MapK Tim MapF Whl
set_option linter.unusedVariables false

theorem Arm (q : Nat) (a : Option Addr) (c : Nat) (L : TRows) (i t n : Int) (w : World) (h : RefAt w q a c L) (hi : I64 i) (ht : I64 t) (hlen : L.length ≤ 900000) :
    Calls Try.prog 11 #[.pointer (some ⟨q, 0, none⟩), .agg #[.int .i64 i, .int .i64 t], .int .i64 n] w fun e w' => e = .returned (.int .i64 (armR (i, t) n)) ∧
      ∃ a' c', RefAt w' q a' c' (armS (i, t) n L) ∧ Moved w (.slice a L.length c) (.slice a' (armS (i, t) n L).length c') ∧ Foot (fun k => k = q) w w' := by
  unfold armR armS
  by_cases hm : may (i, t) n
  · rw [if_pos hm, if_pos hm]
    exact Arm_yes q a c L i t n w h hi ht hm hlen
  · rw [if_neg hm, if_neg hm]
    exact (Arm_no q a c L i t n w h hm).mono fun e w' ⟨h1, h2⟩ => ⟨h1, a, c, h.still h2, Moved.refl _ _, h2.mono fun _ _ h => h.elim⟩

/-- What stays and what fires, under way. -/
structure Two (W wr : World) (v u : Value) (M : TRows) (l : List F) : Prop where
  out : Out W wr v M
  fire : Firing wr W.heap.size u l
  apart : ∀ g, v.ownBlock = some g → u.ownBlock ≠ some g
section
variable {W wr w2 w3 : World} {v u v' : Value} {M : TRows} {l : List F} {i t y : Int}
theorem Two.still (h : Two W wr v u M l) (hf : Foot (fun _ => False) wr w2) : Two W w2 v u M l := ⟨h.out.still hf, h.fire.still hf, h.apart⟩
theorem Two.stay (h : Two W wr v u M l) (hi : Items w3 57 3 v' (M.length + 1) (flat3 M ++ [.int .i64 i, .int .i64 t, .int .i64 y])) (hf : Foot (fun k => v.ownBlock = some k) wr w3) (hm : Moved wr v v') : Two W w3 v' u (M ++ [((i, t), y)]) l :=
  ⟨h.out.push hi hf hm, h.fire.keep hf fun g hg e => h.apart g e hg, fun g hg e => by
    rcases hm g hg with h1 | h1
    · exact h.apart g h1 e
    · have := h.fire.items.lt e; omega⟩
theorem Two.fires (h : Two W wr v u M l) (hi : Items w3 31 2 v' (l.length + 1) (flat2 l ++ [.int .i64 i, .int .i64 t])) (hf : Foot (fun k => u.ownBlock = some k) wr w3) (hm : Moved wr u v') : Two W w3 v v' M (l ++ [(i, t)]) :=
  ⟨⟨h.out.items.keep hf fun g hg e => h.apart g hg e, h.out.own, h.out.foot.trans hf fun k hk e => by have := h.fire.own k e; omega⟩,
   ⟨by rw [List.length_append, flat2_append]; exact hi, fun g hg => by
      rcases hm g hg with h1 | h1
      · exact h.fire.own g h1
      · exact Nat.le_trans h.out.foot.size h1⟩, fun g hg e => by
    rcases hm g e with h1 | h1
    · exact h.apart g hg h1
    · have := h.out.items.lt hg; omega⟩
end

theorem hold4 {w w2 : World} {p1 p2 p3 p4 : Addr} {v1 v2 v3 v4 : Value} (h1 : w.cell? p1 = some v1) (h2 : w.cell? p2 = some v2) (h3 : w.cell? p3 = some v3) (h4 : w.cell? p4 = some v4) (h : Foot (fun _ => False) w w2) :
    w2.cell? p1 = some v1 ∧ w2.cell? p2 = some v2 ∧ w2.cell? p3 = some v3 ∧ w2.cell? p4 = some v4 :=
  ⟨hold1 h1 h, hold1 h2 h, hold1 h3 h, hold1 h4 h⟩

set_option maxHeartbeats 1000000 in
theorem Tick (q : Nat) (a : Option Addr) (c : Nat) (L : TRows) (w : World) (h : RefAt w q a c L) (hlen : L.length ≤ 900000) :
    Calls Try.prog 18 #[.pointer (some ⟨q, 0, none⟩)] w fun e w' => ∃ a2 c2 a' c', e = .returned (.slice a2 (firedL L).length c2) ∧ RefAt w' q a' c' (tickL L) ∧ Firing w' w.heap.size (.slice a2 (firedL L).length c2) (firedL L) ∧
      Moved w (.slice a L.length c) (.slice a' (tickL L).length c') ∧ Foot (fun k => k = q) w w' := by
  obtain ⟨i0, hi0, hz0, hz1, hz2⟩ := info_parts info_T
  obtain ⟨j0, hj0, hy0, hy1, hy2⟩ := info_parts info_F
  have hq := h.at_.lt
  obtain ⟨hlc, hcm⟩ := h.le
  have HR := Lib.hid h
  generalize hl : L.length = n at *
  have HL := Lib.hid hl
  unfold maxLen at hcm
  clear h hl
  go_enter Try.func18, Try.ntmps18
  go_wp2_with fail
  go_loopw [3, 4, 5] (fun v u k wr => ∃ j : Nat, j ≤ n ∧ k = .int .i64 j ∧ Hid (Two w wr v u (tickL (L.take j)) (firedL (L.take j)))) (fun _ _ k _ => n - (intOf k).toNat)
  case atStart => exact ⟨0, Nat.zero_le _, rfl, Lib.hid ⟨Out.nil (Foot.refl _ _), ⟨Items.nil _ _ _, fun g hg => by simp [Value.ownBlock] at hg⟩, fun g hg => by simp [Value.ownBlock] at hg⟩⟩
  case round =>
    obtain ⟨j, hj, rfl, HO⟩ := hrel
    have HRr := Lib.hid (HR.out.still HO.out.out.foot)
    have c0 : wr.cell? ⟨q, 0, none⟩ = some (.slice a n c) := by have := HRr.out.at_.cell 0; rw [HL.out] at this; exact this
    by_cases hjn : j < n
    · obtain ⟨x, z, y, hk⟩ := HRr.out.some (k := j) (by rw [HL.out]; exact hjn)
      obtain ⟨g, off, rfl, d0', d1', d2'⟩ := HR.out.row hk
      have d0 := hold1 d0' HO.out.out.foot
      have d1 := hold1 d1' HO.out.out.foot
      have d2 := hold1 d2' HO.out.out.foot
      have C0 : Hid (w.cell? ⟨q, 0, none⟩ = some (.slice (some ⟨g, off, none⟩) n c)) := Lib.hid (by have := HR.out.at_.cell 0; rw [HL.out] at this; exact this)
      have D0 := Lib.hid d0'; have D1 := Lib.hid d1'; have D2 := Lib.hid d2'
      clear d0' d1' d2'
      have HK := Lib.hid hk
      have HV := Lib.hid (HRr.out.keys hk).2
      have HLn : Hid ((tickL (L.take j)).length + 1 ≤ 1000000 ∧ (firedL (L.take j)).length + 1 ≤ 1000000) := Lib.hid (by
        have h1 := length_tick (L.take j)
        have h2 := length_fired (L.take j)
        rw [List.length_take] at h1 h2
        have := HL.out
        omega)
      clear hk
      by_cases he : y = 1
      · subst he
        have HN : Hid (tickL (L.take (j + 1)) = tickL (L.take j)) := Lib.hid (by rw [tick_next HK.out, if_pos rfl])
        have HN2 : Hid (firedL (L.take (j + 1)) = firedL (L.take j) ++ [(x, z)]) := Lib.hid (by rw [fired_next HK.out, if_pos rfl])
        go_wp2_with (first
          | (at_builtin; refine wpList_append rfl (.tmp 24) (.tmp 33) 39 rfl 31 j0 (.agg #[.int .i64 0, .int .i64 0]) 2 Try.underlying39 hj0 hy0 hy1 rfl rfl (HO.out.fire.items.alloc _) ⟨wr.heap.size, 0, none⟩ 1 1 [.int .i64 x, .int .i64 z] rfl rfl (cells2_new _ _ _ _) (by simp [Value.oneCell']) (by omega) (by have := HLn.out; unfold maxLen; omega) (by have := HLn.out; rw [hy2]; omega) ?_
             intro a' c' w4 hI4 hF4 hM4
             have HO4 := Lib.hid ((HO.out.still ((Foot.refl (fun _ => False) wr).alloc _)).fires hI4 hF4 hM4)
             clear hI4 hF4 hM4))
        go_roundw
        case rel => exact ⟨j + 1, by omega, by go_num, by rw [HN.out, HN2.out]; exact HO4⟩
        case measure => simp [intOf]; omega
      · have hye : (y == 1) = false := by rw [beq_eq_false_iff_ne]; exact he
        have hw : IntKind.i64.wrap (y - 1) = y - 1 := by have := HV.out; rw [IntKind.wrap_i64]; omega
        have HN : Hid (tickL (L.take (j + 1)) = tickL (L.take j) ++ [((x, z), y - 1)]) := Lib.hid (by rw [tick_next HK.out, if_neg he])
        have HN2 : Hid (firedL (L.take (j + 1)) = firedL (L.take j)) := Lib.hid (by rw [fired_next HK.out, if_neg he])
        clear he
        have HWd : Hid (Foot (fun _ => False) wr (wr.alloc (.cells #[.int .i64 x, .int .i64 z, .int .i64 (y - 1)] 57)).drew) := Lib.hid (((Foot.refl _ wr).alloc _).drew)
        have I0 := Lib.hid (HO.out.still HWd.out)
        have N0 : Hid (∀ j u, [Value.int .i64 x, .int .i64 z, .int .i64 (y - 1)][j]? = .some u → (wr.alloc (.cells #[.int .i64 x, .int .i64 z, .int .i64 (y - 1)] 57)).drew.cell? ((⟨wr.heap.size, 0, none⟩ : Addr).add j) = .some u) := Lib.hid (cells3_new _ _ _ _ _)
        go_wp2_with fail
        go_region_held3 (fun w' => w'.cell? ⟨q, 0, none⟩ = some (.slice (some ⟨g, off, none⟩) n c) ∧ w'.cell? ⟨g, off + j * 3, none⟩ = some (.int .i64 x) ∧ w'.cell? ⟨g, off + j * 3 + 1, none⟩ = some (.int .i64 z) ∧ w'.cell? ⟨g, off + j * 3 + 2, none⟩ = some (.int .i64 y))
          (first | go_keep | exact hold4 C0.out D0.out D1.out D2.out HFa.out)
          (first
            | (refine step_of_wp rfl ?_; refine wp_append (.tmp 35) (.tmp 54) 26 rfl 57 i0 (.agg #[.int .i64 0, .int .i64 0, .int .i64 0]) 3 Try.underlying26 hi0 hz0 hz1 rfl rfl I0.out.out.items ⟨wr.heap.size, 0, none⟩ 1 1 [.int .i64 x, .int .i64 z, .int .i64 (y - 1)] rfl rfl N0.out (by simp [Value.oneCell']) (by omega) (by have := HLn.out; unfold maxLen; omega) (by have := HLn.out; rw [hz2]; omega) ?_
               intro a' c' w4 hI4 hF4 hM4
               have HO4 := Lib.hid (I0.out.stay hI4 hF4 hM4)
               have HFa := Lib.hid (HO4.out.out.foot)
               clear hI4 hF4 hM4))
        go_wp2_with fail
        go_roundw
        case rel => exact ⟨j + 1, by omega, by go_num, by rw [HN.out, HN2.out]; exact HO4⟩
        case measure => simp [intOf]; omega
    · obtain rfl : j = n := by omega
      have hT : L.take j = L := List.take_of_length_le (by rw [HL.out]; exact Nat.le_refl _)
      rw [hT] at HO
      have hfz : wr.frozen? ⟨q, 0, none⟩ = false := HRr.out.at_.free 0
      have HG := Lib.hid HR.out.good.tick
      obtain ⟨a2, c2, hv, _, _⟩ := HO.out.out.items.shape
      obtain ⟨a3, c3, hu, _, _⟩ := HO.out.fire.items.shape
      subst hv
      subst hu
      clear hT hjn
      go_wp2_with fail
      go_ret
      obtain ⟨h1, h2⟩ := HO.out.out.lay HR.out HG.out
      exact ⟨a3, c3, a2, c2, rfl, h1, HO.out.fire.keep (S := fun k => k = q) (Foot.setCell (S := fun k => k = q) (Foot.refl _ wr) (p := ⟨q, 0, none⟩) (fun _ => rfl) _) fun g hg e => by have := HO.out.fire.own g hg; omega, HO.out.out.moved _, h2⟩

theorem firing_row {w : World} {lo : Nat} {a : Option Addr} {n c : Nat} {l : List F} (h : Firing w lo (.slice a n c) l) (hn : n = l.length) {k : Nat} {i t : Int} (hk : l[k]? = some (i, t)) : ∃ g off, a = some ⟨g, off, none⟩ ∧ w.cell? ⟨g, off + k * 2, none⟩ = some (.int .i64 i) ∧ w.cell? ⟨g, off + k * 2 + 1, none⟩ = some (.int .i64 t) := by
  have hkl : k < l.length := (List.getElem?_eq_some_iff.1 hk).1
  obtain ⟨g, off, cap, hv, _, _, _, hc⟩ := h.items.cell (by omega)
  obtain ⟨h1, h2⟩ := flat2_get l k _ hk
  refine ⟨g, off, by injection hv, ?_, ?_⟩
  · rw [hc _ (by omega), h1]
  · rw [Nat.add_assoc, hc _ (by omega), h2]

/-- Two rows that are one. -/
theorem same (lo lo' : Nat) (a b : Option Addr) (c d : Nat) (l : List F) (w : World) (h1 : Firing w lo (.slice a l.length c) l) (h2 : Firing w lo' (.slice b l.length d) l) :
    Calls Try.prog 16 #[.slice a l.length c, .slice b l.length d] w fun e w' => e = .returned (.bool true) ∧ ∃ k, w' = w.drewN k := by
  obtain ⟨a', c', hv, hle, hmx⟩ := h1.items.shape
  obtain ⟨b', d', hv', hle', hmx'⟩ := h2.items.shape
  obtain rfl : c = c' := by injection hv
  obtain rfl : d = d' := by injection hv'
  unfold maxLen at hmx hmx'
  have H1 := Lib.hid h1; have H2 := Lib.hid h2
  generalize hl : l.length = n at *
  have HL := Lib.hid hl
  clear h1 h2 hv hv' hl
  go_enter Try.func16, Try.ntmps16
  go_wp2_with fail
  go_loopw [5] (fun k wr => ∃ j : Nat, j ≤ n ∧ k = .int .i64 j ∧ ∃ d, wr = w.drewN d) (fun k _ => n - (intOf k).toNat)
  case atStart => exact ⟨0, Nat.zero_le _, rfl, 0, rfl⟩
  case round =>
    obtain ⟨j, hj, rfl, dn, rfl⟩ := hrel
    by_cases hjn : j < n
    · obtain ⟨x, z, hk⟩ : ∃ x z, l[j]? = some (x, z) := ⟨_, _, List.getElem?_eq_getElem (by rw [HL.out]; exact hjn)⟩
      obtain ⟨g, off, rfl, d0, d1⟩ := firing_row H1.out HL.out.symm hk
      obtain ⟨g', off', rfl, e0, e1⟩ := firing_row H2.out HL.out.symm hk
      have heq := eqFired x z x z
      rw [decide_eq_true rfl] at heq
      clear hk
      go_wp2_with fail
      go_quiet (fail)
      go_wp2_with fail
      go_roundw
      case rel => exact ⟨j + 1, by omega, by go_num, _, rfl⟩
      case measure => simp [intOf]; omega
    · obtain rfl : j = n := by omega
      clear hjn
      go_wp2_with fail
      go_ret
      exact ⟨rfl, _, rfl⟩
end Go.Proofs.Ytjpepnokijbhgaa.Ref5
