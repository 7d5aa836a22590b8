/- The contracts of package wheel that go through the map: Next, Clear, Tick; Arm in one. -/
import Derived.Test.YtjpepnokijbhgaaWheel
namespace Go.Proofs.Ytjpepnokijbhgaa.Whl
open Go.RowKit Mem MapK Tim MapF
set_option linter.unusedVariables false

def armR (f : F) (n : Int) : Int := if may f n then 0 else 1
def armS (f : F) (n : Int) (L : TRows) : TRows := if may f n then armL f n L else L
theorem Arm (p : Nat) (mv : Option Nat) (L : TRows) (i t n : Int) (w : World) (h : WheelAt w p mv L) (hi : I64 i) (ht : I64 t) :
    Calls Try.prog 10 #[.pointer (some ⟨p, 0, none⟩), .agg #[.int .i64 i, .int .i64 t], .int .i64 n] w fun e w' => e = .returned (.int .i64 (armR (i, t) n)) ∧
      ∃ mv', WheelAt w' p mv' (armS (i, t) n L) ∧ Fresh w mv mv' ∧ Foot (fun k => k = p ∨ mv = some k) w w' := by
  unfold armR armS
  by_cases hm : may (i, t) n
  · rw [if_pos hm, if_pos hm]
    cases mv with
    | none => exact (Arm_first p L i t n w h hi ht hm).mono fun e w' ⟨h1, h2, h3⟩ => ⟨h1, _, h2, fun b hb => .inr (by cases hb; omega), h3.mono fun _ _ h => .inl h⟩
    | some b => exact (Arm_there p b L i t n w h hi ht hm).mono fun e w' ⟨h1, h2, h3⟩ => ⟨h1, _, h2, Fresh.refl _ _, h3.mono fun _ _ h => .inr (by rw [h])⟩
  · rw [if_neg hm, if_neg hm]
    exact (Arm_no p mv L i t n w h hm).mono fun e w' ⟨h1, h2⟩ => ⟨h1, mv, h.still h2, Fresh.refl _ _, h2.mono fun _ _ h => h.elim⟩

theorem Next (p : Nat) (mv : Option Nat) (L : TRows) (w : World) (h : WheelAt w p mv L) :
    Calls Try.prog 21 #[.pointer (some ⟨p, 0, none⟩)] w fun e w' => e = .returned (.tuple #[.int .i64 (nextN L), .bool (nextB L)]) ∧ Foot (fun _ => False) w w' := by
  have C := Lib.hid (Len p mv L w h)
  by_cases h0 : L = []
  · subst h0
    clear h
    go_enter Try.func21, Try.ntmps21
    go_wp2_with fail
    refine C.out.mono ?_
    rintro e w1 ⟨rfl, rfl⟩
    go_wp2_with fail
    go_ret2
    exact ⟨rfl, Foot.refl _ _⟩
  · rw [show nextN L = least L from if_neg h0, show nextB L = true from decide_eq_true h0]
    have hn : ((L.length : Int) == 0) = false := by
      have := List.length_pos_iff.2 h0
      rw [beq_eq_false_iff_ne]
      omega
    have c0 : w.cell? ⟨p, 0, none⟩ = some (.map mv) := h.at_.cell 0
    have HM := Lib.hid h.map
    have hp := h.at_.lt
    generalize hl : L.length = n at *
    have HL := Lib.hid hl
    clear h hl h0
    go_enter Try.func21, Try.ntmps21
    go_wp2_with fail
    refine C.out.mono ?_
    rintro e w1 ⟨rfl, rfl⟩
    clear C
    go_wp2_with (at_range; refine wpList_rangeF rfl _ rfl rfl HM.out ?_; intro w0 hg0 hf0 hs0)
    go_frame
    have HG := Lib.hid hg0
    have HF := Lib.hid hf0
    clear hg0 hf0 hs0 c0 hn
    go_loopg [4] n (fun k m wr => ∃ D T, T.length = k ∧ m = .int .i64 (least D) ∧ Hid (WGo wr mv w.heap.size D T) ∧ Hid ((D ++ T).Perm L) ∧ Hid (Foot (fun _ => False) w wr))
    case atStart => exact ⟨[], L, HL.out, rfl, HG, Lib.hid (List.Perm.refl _), HF⟩
    case round =>
      obtain ⟨D, T, hgk, rfl, HG1, HP, HF1⟩ := hrel
      have HGK := Lib.hid hgk; clear hgk HG HF
      go_wp2_with (at_next; refine wpList_nextF rfl _ rfl rfl HG1.out ?_ ?_)
      · intro hT
        have e1 : least D = least L := by
          have := HP.out
          rw [hT, List.append_nil] at this
          exact least_perm this
        rw [e1]
        clear hT e1 HG1
        go_wp2_with fail
        go_ret2
        exact ⟨rfl, HF1.out⟩
      · intro i t y T' w2 hp2 hg2 hf2 hs2 hen
        have HG2 := Lib.hid hg2
        have HP2 : Hid ((((i, t), y) :: D ++ T').Perm L) := Lib.hid (((List.perm_middle (l₁ := D) (l₂ := T') (a := ((i, t), y))).symm.trans (hp2.symm.append_left D)).trans HP.out)
        have HF2 : Hid (Foot (fun _ => False) w w2) := Lib.hid (HF1.out.trans hf2 fun k hk e => by omega)
        have HT2 : Hid (T.length = T'.length + 1) := Lib.hid hp2.length_eq
        obtain ⟨x, hx⟩ : ∃ x, x = least D := ⟨_, rfl⟩
        have HX := Lib.hid hx
        rw [← hx]
        clear hp2 hg2 hf2 hs2 HG1 HP HF1 hx
        go_wp2_with fail
        go_roundg (T'.length)
        case measure => have := HGK.out; have := HT2.out; omega
        case rel => exact ⟨_, T', rfl, by rw [least_cons, ← HX.out], HG2, HP2, HF2⟩

theorem Clear (p : Nat) (mv : Option Nat) (L : TRows) (c : Int) (w : World) (h : WheelAt w p mv L) (hlen : L.length ≤ 1000000) :
    Calls Try.prog 14 #[.pointer (some ⟨p, 0, none⟩), .int .i64 c] w fun e w' => e = .returned (.int .i64 (L.length - (clearL c L).length)) ∧ WheelAt w' p mv (clearL c L) ∧ Foot (fun k => mv = some k) w w' := by
  have c0 : w.cell? ⟨p, 0, none⟩ = some (.map mv) := h.at_.cell 0
  have HM := Lib.hid h.map
  have HW := Lib.hid h
  have hp := h.at_.lt
  have hcl := length_clear c L
  have hw : ∀ x : Nat, x ≤ L.length → IntKind.i64.wrap ((L.length : Int) - (x : Int)) = (L.length : Int) - (x : Int) := fun x hx => by rw [IntKind.wrap_i64]; omega
  have hwr := hw _ hcl
  generalize hl : L.length = n at *
  have HL := Lib.hid hl
  clear h hl hw
  go_enter Try.func14, Try.ntmps14
  go_wp2_with (first
    | (at_len; refine wpList_lenF rfl _ rfl rfl HM.out ?_)
    | (at_range; refine wpList_rangeF rfl _ rfl rfl HM.out ?_; intro w0 hg0 hf0 hs0))
  go_frame
  have HG := Lib.hid hg0
  have HF := Lib.hid hf0
  clear hg0 hf0 hs0 c0
  rw [HL.out]
  go_loopg [6] n (fun k (_ : Value) wr => ∃ D T, T.length = k ∧ Hid (WGo wr mv w.heap.size (clearL c D) T) ∧ Hid ((D ++ T).Perm L) ∧ Hid (Foot (fun k => mv = some k) w wr))
  case atStart => exact ⟨[], L, HL.out, HG, Lib.hid (List.Perm.refl _), Lib.hid (HF.out.mono fun _ _ h => h.elim)⟩
  case round =>
    obtain ⟨D, T, hgk, HG1, HP, HF1⟩ := hrel
    have HGK := Lib.hid hgk; clear hgk HG HF
    go_wp2_with (at_next; refine wpList_nextF rfl _ rfl rfl HG1.out ?_ ?_)
    · intro hT
      have hPL : D.Perm L := by
        have := HP.out
        rwa [hT, List.append_nil] at this
      have HM2 : Hid (WMap wr mv (clearL c L)) := Lib.hid (by
        have := HG1.out.map
        rw [hT, List.append_nil] at this
        exact this.perm (clear_perm hPL))
      have HA2 := Lib.hid (HW.out.at_.keep HF1.out HW.out.ne)
      have c0 : wr.cell? ⟨p, 0, none⟩ = some (.map mv) := HA2.out.cell 0
      clear hT hPL HG1 HP
      go_wp2_with (at_len; refine wpList_lenF rfl _ rfl rfl HM2.out ?_)
      go_ret
      exact ⟨rfl, ⟨HA2.out, HM2.out, HW.out.good.clear c⟩, HF1.out⟩
    · intro i t y T' w2 hp2 hg2 hf2 hs2 hen
      have HG2 := Lib.hid hg2
      have HP2 : Hid ((((i, t), y) :: D ++ T').Perm L) := Lib.hid (((List.perm_middle (l₁ := D) (l₂ := T') (a := ((i, t), y))).symm.trans (hp2.symm.append_left D)).trans HP.out)
      have HF2 : Hid (Foot (fun k => mv = some k) w w2) := Lib.hid (HF1.out.trans hf2 fun k hk e => by omega)
      have HT2 : Hid (T.length = T'.length + 1) := Lib.hid hp2.length_eq
      clear hp2 hg2 hf2 hs2 HG1 HP HF1
      have HK := Lib.hid (HW.out.keys (show ((i, t), y) ∈ L from HP2.out.mem_iff.1 (List.mem_append_left _ (List.mem_cons_self ..))))
      have HA2 := Lib.hid (HW.out.at_.keep HF2.out HW.out.ne)
      by_cases hic : i = c
      · subst hic
        go_wp2_with fail
        have hlt2 : w.heap.size ≤ w2.heap.size := HF2.out.size
        have h1 : Hid (∃ wd, wd = w2.alloc (.cells #[.int .i64 i, .int .i64 t] 31) ∧ At wd p 55 #[.map mv] ∧ At wd w2.heap.size 31 #[.int .i64 i, .int .i64 t] ∧ WGo wd mv w.heap.size (((i, t), y) :: clearL i D) T' ∧ Foot (fun k => mv = some k) w wd) :=
          Lib.hid ⟨_, rfl, HA2.out.alloc _, At.new _ _ _, HG2.out.keep ((Foot.refl (fun _ => False) w2).alloc _) (fun _ _ => id) id, HF2.out.alloc _⟩
        obtain ⟨wd, hwd, hAt, hAb, hGo, hFt⟩ := h1.out
        rw [← hwd]
        have c0 : wd.cell? ⟨p, 0, none⟩ = some (.map mv) := hAt.cell 0
        have c1 : wd.cell? ⟨w2.heap.size, 0, none⟩ = some (.int .i64 i) := hAb.cell 0
        have c2 : wd.cell? ⟨w2.heap.size, 1, none⟩ = some (.int .i64 t) := hAb.cell 1
        have HGd := Lib.hid (hGo.keep (Foot.refl (fun _ => False) wd).drew (fun _ _ => id) id)
        have HFd := Lib.hid hFt
        clear hAt hAb hGo hFt hwd h1 HG2 HF2 HA2 hen
        go_still_tail 5, (by kernel_rfl)
        change wpList _ _ _ _ _ wd.drew
        go_wp2_with (at_delete; refine wpList_redropM rfl _ _ rfl HK.out.1 HK.out.2 rfl HGd.out rfl ?_; intro w3 hg3 hf3 hs3)
        have HG3 := Lib.hid hg3
        have HF3 : Hid (Foot (fun k => mv = some k) w w3) := Lib.hid ((HFd.out.drew).trans hf3 fun _ _ h => h)
        clear hg3 hf3 hs3 c0 c1 c2 HGd HFd
        go_wp2_with fail
        go_roundg (T'.length)
        case measure => have := HGK.out; have := HT2.out; omega
        case rel => exact ⟨_, T', rfl, by rw [clear_hit (x := (i, t)) (y := y) D rfl]; exact HG3, HP2, HF3⟩
      · have hie : (i == c) = false := by rw [beq_eq_false_iff_ne]; exact hic
        have hxi : ((i, t) : F).1 ≠ c := hic
        have HXI := Lib.hid hxi
        clear hic hxi
        have HG3 := Lib.hid (HG2.out.keep ((Foot.refl (fun _ => False) w2).alloc (.cells #[.int .i64 i, .int .i64 t] 31)) (fun _ _ => id) id)
        have HF3 := Lib.hid (HF2.out.alloc (.cells #[.int .i64 i, .int .i64 t] 31))
        clear HG2 HF2 HA2
        go_wp2_with fail
        go_roundg (T'.length)
        case measure => have := HGK.out; have := HT2.out; omega
        case rel => exact ⟨_, T', rfl, by rw [clear_miss (x := (i, t)) (y := y) D HXI.out]; exact HG3, HP2, HF3⟩
end Go.Proofs.Ytjpepnokijbhgaa.Whl
