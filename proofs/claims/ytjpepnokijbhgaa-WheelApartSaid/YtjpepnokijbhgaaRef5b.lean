/- The contracts of the reference for timers: Clear, Left, Next. -/
import Derived.Test.YtjpepnokijbhgaaRef5
namespace Go.Proofs.Ytjpepnokijbhgaa.Ref5
open Go.RowKit Mem MapK Tim MapF Whl
set_option linter.unusedVariables false

theorem Clear (q : Nat) (a : Option Addr) (c : Nat) (L : TRows) (i : Int) (w : World) (h : RefAt w q a c L) (hlen : L.length ≤ 1000000) :
    Calls Try.prog 15 #[.pointer (some ⟨q, 0, none⟩), .int .i64 i] w fun e w' => e = .returned (.int .i64 (L.length - (clearL i L).length)) ∧
      ∃ a' c', RefAt w' q a' c' (clearL i L) ∧ Moved w (.slice a L.length c) (.slice a' (clearL i L).length c') ∧ Foot (fun k => k = q) w w' := by
  obtain ⟨i0, hi, hz0, hz1, hz2⟩ := info_parts info_T
  have hq := h.at_.lt
  obtain ⟨hlc, hcm⟩ := h.le
  have HR := Lib.hid h
  have hwr : IntKind.i64.wrap ((L.length : Int) - ((clearL i L).length : Int)) = (L.length : Int) - ((clearL i L).length : Int) := by have := length_clear i L; rw [IntKind.wrap_i64]; omega
  generalize hl : L.length = n at *
  have HL := Lib.hid hl
  unfold maxLen at hcm
  clear h hl
  go_enter Try.func15, Try.ntmps15
  go_wp2_with fail
  go_loopw [5, 6] (fun v k wr => ∃ j : Nat, j ≤ n ∧ k = .int .i64 j ∧ Hid (Out w wr v (clearL i (L.take j)))) (fun _ k _ => n - (intOf k).toNat)
  case atStart => exact ⟨0, Nat.zero_le _, rfl, Lib.hid (Out.nil (Foot.refl _ _))⟩
  case round =>
    obtain ⟨j, hj, rfl, HO⟩ := hrel
    have HRr := Lib.hid (HR.out.still HO.out.foot)
    have c0 : wr.cell? ⟨q, 0, none⟩ = some (.slice a n c) := by have := HRr.out.at_.cell 0; rw [HL.out] at this; exact this
    by_cases hjn : j < n
    · obtain ⟨x, z, y, hk⟩ := HRr.out.some (k := j) (by rw [HL.out]; exact hjn)
      obtain ⟨g, off, rfl, d0, d1, d2⟩ := HRr.out.row hk
      have HK := Lib.hid hk
      clear hk
      by_cases he : x = i
      · have heq : (x != i) = false := by simp [he]
        have HN : Hid (clearL i (L.take (j + 1)) = clearL i (L.take j)) := Lib.hid (by rw [clear_next HK.out, if_pos he])
        clear he
        go_wp2_with fail
        go_roundw
        case rel => exact ⟨j + 1, by omega, by go_num, by rw [HN.out]; exact Lib.hid HO.out⟩
        case measure => simp [intOf]; omega
      · have heq : (x != i) = true := by simp [he]
        have HN : Hid (clearL i (L.take (j + 1)) = clearL i (L.take j) ++ [((x, z), y)]) := Lib.hid (by rw [clear_next HK.out, if_neg he])
        have HLn : Hid ((clearL i (L.take j)).length + 1 ≤ 1000000) := Lib.hid (by
          have h1 := length_clear i (L.take j)
          rw [List.length_take] at h1
          have := HL.out
          omega)
        clear he
        go_wp2_with (at_builtin; refine wpList_append rfl (.tmp 28) (.tmp 36) 26 rfl 57 i0 (.agg #[.int .i64 0, .int .i64 0, .int .i64 0]) 3 Try.underlying26 hi hz0 hz1 rfl rfl (HO.out.items.alloc _) ⟨wr.heap.size, 0, none⟩ 1 1 [.int .i64 x, .int .i64 z, .int .i64 y] rfl rfl (cells3_new _ _ _ _ _) (by simp [Value.oneCell']) (by omega) (by have := HLn.out; unfold maxLen; omega) (by have := HLn.out; rw [hz2]; omega) ?_)
        intro a' c' w4 hI4 hF4 hM4
        have HO4 := Lib.hid ((HO.out.still ((Foot.refl (fun _ => False) wr).alloc _)).push hI4 hF4 hM4)
        clear hI4 hF4 hM4
        go_wp2_with fail
        go_roundw
        case rel => exact ⟨j + 1, by omega, by go_num, by rw [HN.out]; exact HO4⟩
        case measure => simp [intOf]; omega
    · obtain rfl : j = n := by omega
      have hT : L.take j = L := List.take_of_length_le (by rw [HL.out]; exact Nat.le_refl _)
      rw [hT] at HO
      have HLo := Lib.hid (length_clear i L)
      have hfz : wr.frozen? ⟨q, 0, none⟩ = false := HRr.out.at_.free 0
      have HFi : Hid (Fine (clearL i L)) := Lib.hid (HR.out.good.clear i)
      obtain ⟨a2, c2', hv, hle2, hmx2⟩ := HO.out.items.shape
      subst hv
      clear hT hjn
      go_wp2_with fail
      go_ret
      obtain ⟨h1, h2⟩ := HO.out.lay HR.out HFi.out
      exact ⟨rfl, a2, c2', h1, HO.out.moved _, h2⟩

theorem Left (q : Nat) (a : Option Addr) (c : Nat) (L : TRows) (i t : Int) (w : World) (h : RefAt w q a c L) (hlen : L.length ≤ 1000000) :
    Calls Try.prog 20 #[.pointer (some ⟨q, 0, none⟩), .agg #[.int .i64 i, .int .i64 t]] w fun e w' => e = .returned (.tuple #[.int .i64 (leftN L (i, t)), .bool (leftB L (i, t))]) ∧ Foot (fun _ => False) w w' := by
  have HF0 : Hid (Foot (fun _ => False) w (w.alloc (.cells #[.int .i64 i, .int .i64 t] 31))) := Lib.hid ((Foot.refl _ w).alloc _)
  have HA := Lib.hid (At.new w 31 #[.int .i64 i, .int .i64 t])
  have hq := h.at_.lt
  obtain ⟨hlc, hcm⟩ := h.le
  have HR := Lib.hid h
  generalize hl : L.length = n at *
  have HL := Lib.hid hl
  unfold maxLen at hcm
  clear h hl
  generalize hN : leftN L (i, t) = lN
  generalize hB : leftB L (i, t) = lB
  have HN := Lib.hid hN; have HB := Lib.hid hB
  clear hN hB
  go_enter Try.func20, Try.ntmps20
  go_wp2_with fail
  have HR0 := Lib.hid (HR.out.still HF0.out)
  generalize w.alloc (.cells #[.int .i64 i, .int .i64 t] 31) = w0 at *
  go_loopw [6] (fun k wr => ∃ j : Nat, j ≤ n ∧ k = .int .i64 j ∧ Hid (∀ p ∈ L.take j, p.1 ≠ (i, t)) ∧ Hid (Foot (fun _ => False) w0 wr)) (fun k _ => n - (intOf k).toNat)
  case atStart => exact ⟨0, Nat.zero_le _, rfl, Lib.hid (fun p hp => by simp at hp), Lib.hid (Foot.refl _ _)⟩
  case round =>
    obtain ⟨j, hj, rfl, HP, HF⟩ := hrel
    have HRr := Lib.hid (HR0.out.still HF.out)
    have HAr := Lib.hid (HA.out.keep HF.out id)
    have c0 : wr.cell? ⟨q, 0, none⟩ = some (.slice a n c) := by have := HRr.out.at_.cell 0; rw [HL.out] at this; exact this
    have c1 : wr.cell? ⟨w.heap.size, 0, none⟩ = some (.int .i64 i) := HAr.out.cell 0
    have c2 : wr.cell? ⟨w.heap.size, 1, none⟩ = some (.int .i64 t) := HAr.out.cell 1
    by_cases hjn : j < n
    · obtain ⟨x, z, y, hk⟩ := HRr.out.some (k := j) (by rw [HL.out]; exact hjn)
      obtain ⟨g, off, rfl, d0, d1, d2⟩ := HRr.out.row hk
      have HK := Lib.hid hk
      have heq := eqFired x z i t
      clear hk
      by_cases he : ((x, z) : F) = (i, t)
      · rw [decide_eq_true he] at heq
        have hs : MapK.look L (i, t) = .some y := look_some HR.out.good.nodup (by rw [← he]; exact List.mem_of_getElem? HK.out)
        obtain rfl : lN = y := by rw [← HN.out]; unfold leftN; rw [hs]; rfl
        obtain rfl : lB = true := by rw [← HB.out]; unfold leftB; rw [hs]; rfl
        clear he hs
        go_wp2_with fail
        go_quiet (fail)
        go_wp2_with fail
        go_ret2
        exact ⟨rfl, HF0.out.trans (HF.out.drewN _) fun _ _ h => h⟩
      · rw [decide_eq_false he] at heq
        have HP1 : Hid (∀ p ∈ L.take (j + 1), p.1 ≠ (i, t)) := Lib.hid (by
          rw [take_succ HK.out]
          intro p hp
          rcases List.mem_append.1 hp with hp | hp
          · exact HP.out p hp
          · rw [List.mem_singleton] at hp
            subst hp
            exact he)
        clear he
        go_wp2_with fail
        go_quiet (fail)
        go_wp2_with fail
        go_roundw
        case rel => exact ⟨j + 1, by omega, by go_num, HP1, Lib.hid (HF.out.drewN _)⟩
        case measure => simp [intOf]; omega
    · obtain rfl : j = n := by omega
      have hs : MapK.look L (i, t) = none := look_none (by have := HP.out; rwa [List.take_of_length_le (by rw [HL.out]; exact Nat.le_refl _)] at this)
      obtain rfl : lN = 0 := by rw [← HN.out]; unfold leftN; rw [hs]; rfl
      obtain rfl : lB = false := by rw [← HB.out]; unfold leftB; rw [hs]; rfl
      clear hjn hs
      go_wp2_with fail
      go_ret2
      exact ⟨rfl, HF0.out.trans HF.out fun _ _ h => h⟩

theorem Next (q : Nat) (a : Option Addr) (c : Nat) (L : TRows) (w : World) (h : RefAt w q a c L) (hlen : L.length ≤ 1000000) :
    Calls Try.prog 22 #[.pointer (some ⟨q, 0, none⟩)] w fun e w' => e = .returned (.tuple #[.int .i64 (nextN L), .bool (nextB L)]) ∧ Foot (fun _ => False) w w' := by
  have hq := h.at_.lt
  obtain ⟨hlc, hcm⟩ := h.le
  by_cases h0 : L = []
  · subst h0
    have c0 : w.cell? ⟨q, 0, none⟩ = some (.slice a 0 c) := h.at_.cell 0
    clear h
    go_enter Try.func22, Try.ntmps22
    go_wp2_with fail
    go_ret2
    exact ⟨rfl, Foot.refl _ _⟩
  · rw [show nextN L = least L from if_neg h0, show nextB L = true from decide_eq_true h0]
    have hpos := List.length_pos_iff.2 h0
    have hn : ((L.length : Int) == 0) = false := by
      rw [beq_eq_false_iff_ne]
      omega
    have HR := Lib.hid h
    obtain ⟨x0, z0, y0, hk0⟩ := h.some hpos
    obtain ⟨g0, off0, rfl, e0, e1, e2⟩ := h.row hk0
    have c0 : w.cell? ⟨q, 0, none⟩ = some (.slice (some ⟨g0, off0, none⟩) L.length c) := h.at_.cell 0
    have HK0 := Lib.hid hk0
    have HV0 := Lib.hid (h.keys hk0).2
    rw [Nat.zero_mul, Nat.add_zero] at e0 e1 e2
    generalize hl : L.length = n at *
    have HL := Lib.hid hl
    unfold maxLen at hcm
    clear h hl h0 hk0
    have HS : Hid (y0 = least (L.take 1)) := Lib.hid (by
      rw [take_succ HK0.out, List.take_zero, List.nil_append, least_cons]
      show y0 = min 65536 y0
      have := HV0.out
      omega)
    go_enter Try.func22, Try.ntmps22
    go_wp2_with fail
    go_loopw [4, 5] (fun m k wr => ∃ j : Nat, 1 ≤ j ∧ j ≤ n ∧ k = .int .i64 j ∧ wr = w ∧ ∃ y, m = .int .i64 y ∧ Hid (y = least (L.take j))) (fun _ k _ => n - (intOf k).toNat)
    case atStart => exact ⟨1, Nat.le_refl _, by omega, rfl, rfl, y0, rfl, HS⟩
    case round =>
      obtain ⟨j, hj1, hj, rfl, rfl, y, rfl, HY⟩ := hrel
      by_cases hjn : j < n
      · obtain ⟨x, z, y1, hk⟩ := HR.out.some (k := j) (by rw [HL.out]; exact hjn)
        obtain ⟨g, off, hgo, d0, d1, d2⟩ := HR.out.row hk
        obtain ⟨rfl, rfl⟩ : g0 = g ∧ off0 = off := by simpa using hgo
        have HY1 : Hid (min y y1 = least (L.take (j + 1))) := Lib.hid (by
          rw [take_succ hk, least_append, ← HY.out, least_cons]
          show min y y1 = min y (min 65536 y1)
          have := (HR.out.keys hk).2
          omega)
        clear hk hgo
        go_wp2_with fail
        go_roundw
        case rel => exact ⟨j + 1, by omega, by omega, by go_num, by simp, _, rfl, HY1⟩
        case measure => simp [intOf]; omega
      · obtain rfl : j = n := by omega
        have HE : Hid (y = least L) := Lib.hid (by have := HY.out; rwa [List.take_of_length_le (by rw [HL.out]; exact Nat.le_refl _)] at this)
        clear hjn
        go_wp2_with fail
        go_ret2
        exact ⟨by rw [← HE.out]; rfl, Foot.refl _ _⟩
end Go.Proofs.Ytjpepnokijbhgaa.Ref5
