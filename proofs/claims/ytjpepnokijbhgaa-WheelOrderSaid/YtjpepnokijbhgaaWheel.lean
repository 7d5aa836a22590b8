/- The contracts of package wheel: New, Arm, Cancel, Left, Len, Next, Clear, Tick. -/
import Derived.Test.YtjpepnokijbhgaaMapF
import Derived.Test.YtjpepnokijbhgaaSort
import Derived.StillTailTactics
import Derived.Deep.QuietTactic
import Derived.LoopTactic
import Derived.Carry
import Derived.Deep.LoopGhost
namespace Go.Proofs.Ytjpepnokijbhgaa.Whl
open Go.RowKit Mem MapK Tim MapF
set_option linter.unusedVariables false

/-- The Wheel at block p, its map mv, nil or not. -/
structure WheelAt (w : World) (p : Nat) (mv : Option Nat) (L : TRows) : Prop where
  at_ : At w p 55 #[.map mv]
  map : WMap w mv L
  good : Fine L
/-- The map that stands then: the same, or a new one. -/
def Fresh (w : World) (mv mv' : Option Nat) : Prop := ∀ b, mv' = some b → mv = some b ∨ w.heap.size ≤ b
theorem Fresh.refl (w : World) (mv : Option Nat) : Fresh w mv mv := fun _ h => .inl h
section
variable {w w1 : World} {p : Nat} {mv : Option Nat} {L : TRows} {S : Nat → Prop}
theorem WheelAt.keep (h : WheelAt w p mv L) (hf : Foot S w w1) (hp : ¬ S p) (hm : ∀ b, mv = some b → ¬ S b) : WheelAt w1 p mv L := ⟨h.at_.keep hf hp, h.map.keep hf hm, h.good⟩
theorem WheelAt.still (h : WheelAt w p mv L) (hf : Foot (fun _ => False) w w1) : WheelAt w1 p mv L := h.keep hf id fun _ _ => id
theorem WheelAt.ne (h : WheelAt w p mv L) : mv ≠ some p := h.map.ne h.at_
theorem WheelAt.keys (h : WheelAt w p mv L) {x : F} {n : Int} (hm : (x, n) ∈ L) : I64 x.1 ∧ I64 x.2 := by
  have := h.good.keys _ hm
  simp only at this
  unfold I64
  omega
end

theorem New (w : World) : Calls Try.prog 8 #[] w fun e w' => e = .returned (.pointer (some ⟨w.heap.size, 0, none⟩)) ∧ WheelAt w' w.heap.size none [] ∧ Foot (fun _ => False) w w' := by
  go_enter Try.func8, Try.ntmps8
  go_wp2_with fail
  go_ret
  exact ⟨rfl, ⟨At.new w 55 #[.map none], rfl, Fine.nil⟩, (Foot.refl _ w).alloc _⟩

/-! ### a nil Wheel -/
theorem Arm_nil (i t n : Int) (w : World) : Calls Try.prog 10 #[.pointer none, .agg #[.int .i64 i, .int .i64 t], .int .i64 n] w fun e w' => e = .returned (.int .i64 1) ∧ Foot (fun _ => False) w w' := by
  go_enter Try.func10, Try.ntmps10
  go_wp2_with fail
  go_ret
  exact ⟨rfl, (Foot.refl _ w).alloc _⟩
theorem Cancel_nil (i t : Int) (w : World) : Calls Try.prog 12 #[.pointer none, .agg #[.int .i64 i, .int .i64 t]] w fun e w' => e = .returned (.bool false) ∧ Foot (fun _ => False) w w' := by
  go_enter Try.func12, Try.ntmps12
  go_wp2_with fail
  go_ret
  exact ⟨rfl, (Foot.refl _ w).alloc _⟩
theorem Left_nil (i t : Int) (w : World) : Calls Try.prog 19 #[.pointer none, .agg #[.int .i64 i, .int .i64 t]] w fun e w' => e = .returned (.tuple #[.int .i64 0, .bool false]) ∧ Foot (fun _ => False) w w' := by
  go_enter Try.func19, Try.ntmps19
  go_wp2_with fail
  go_ret2
  exact ⟨rfl, (Foot.refl _ w).alloc _⟩
theorem Tick_nil (w : World) : Calls Try.prog 17 #[.pointer none] w fun e w' => e = .returned (.slice none 0 0) ∧ w = w' := by
  go_enter Try.func17, Try.ntmps17
  go_wp2_with fail
  go_ret
  exact ⟨rfl, rfl⟩
theorem Clear_nil (i : Int) (w : World) : Calls Try.prog 14 #[.pointer none, .int .i64 i] w fun e w' => e = .returned (.int .i64 0) ∧ w = w' := by
  go_enter Try.func14, Try.ntmps14
  go_wp2_with fail
  go_ret
  exact ⟨rfl, rfl⟩
theorem Len_nil (w : World) : Calls Try.prog 23 #[.pointer none] w fun e w' => e = .returned (.int .i64 0) ∧ w = w' := by
  go_enter Try.func23, Try.ntmps23
  go_wp2_with fail
  go_ret
  exact ⟨rfl, rfl⟩
theorem Next_nil (w : World) : Calls Try.prog 21 #[.pointer none] w fun e w' => e = .returned (.tuple #[.int .i64 0, .bool false]) ∧ w = w' := by
  go_enter Try.func21, Try.ntmps21
  go_wp2_with fail
  refine (Len_nil _).mono ?_
  rintro e w1 ⟨rfl, rfl⟩
  go_wp2_with fail
  go_ret2
  exact ⟨rfl, rfl⟩

/-! ### a Wheel that is there -/
theorem Len (p : Nat) (mv : Option Nat) (L : TRows) (w : World) (h : WheelAt w p mv L) : Calls Try.prog 23 #[.pointer (some ⟨p, 0, none⟩)] w fun e w' => e = .returned (.int .i64 L.length) ∧ w = w' := by
  have h0 : w.cell? ⟨p, 0, none⟩ = some (.map mv) := h.at_.cell 0
  have hM := Lib.hid h.map
  clear h
  go_enter Try.func23, Try.ntmps23
  go_wp2_with (at_len; refine wpList_lenF rfl _ rfl rfl hM.out ?_)
  go_ret
  exact ⟨rfl, rfl⟩

theorem Left (p : Nat) (mv : Option Nat) (L : TRows) (i t : Int) (w : World) (h : WheelAt w p mv L) (hi : I64 i) (ht : I64 t) :
    Calls Try.prog 19 #[.pointer (some ⟨p, 0, none⟩), .agg #[.int .i64 i, .int .i64 t]] w fun e w' => e = .returned (.tuple #[.int .i64 (leftN L (i, t)), .bool (leftB L (i, t))]) ∧ Foot (fun _ => False) w w' := by
  have HF : Hid (Foot (fun _ => False) w (w.alloc (.cells #[.int .i64 i, .int .i64 t] 31))) := Lib.hid ((Foot.refl _ w).alloc _)
  have h1 := h.still HF.out
  have h0 : (w.alloc (.cells #[.int .i64 i, .int .i64 t] 31)).cell? ⟨p, 0, none⟩ = some (.map mv) := h1.at_.cell 0
  have hl := fun n => look_eq (h1.map.keep ((Foot.refl (fun _ => False) _).drewN n) fun _ _ => id) hi ht
  clear h h1
  generalize leftN L (i, t) = r at *
  generalize leftB L (i, t) = b at *
  go_enter Try.func19, Try.ntmps19
  go_wp2_with fail
  go_quiet (fail)
  go_wp2_with fail
  go_ret2
  exact ⟨rfl, HF.out.drewN _⟩

theorem Cancel (p : Nat) (mv : Option Nat) (L : TRows) (i t : Int) (w : World) (h : WheelAt w p mv L) (hi : I64 i) (ht : I64 t) :
    Calls Try.prog 12 #[.pointer (some ⟨p, 0, none⟩), .agg #[.int .i64 i, .int .i64 t]] w fun e w' => e = .returned (.bool (leftB L (i, t))) ∧ WheelAt w' p mv (out L (i, t)) ∧ Foot (fun k => mv = some k) w w' := by
  have HF : Hid (Foot (fun _ => False) w (w.alloc (.cells #[.int .i64 i, .int .i64 t] 31))) := Lib.hid ((Foot.refl _ w).alloc _)
  have h1 := h.still HF.out
  have h0 : (w.alloc (.cells #[.int .i64 i, .int .i64 t] 31)).cell? ⟨p, 0, none⟩ = some (.map mv) := h1.at_.cell 0
  have hl := fun n => look_eq (h1.map.keep ((Foot.refl (fun _ => False) _).drewN n) fun _ _ => id) hi ht
  have A := At.new w 31 #[.int .i64 i, .int .i64 t]
  have HA := Lib.hid A
  have H1 := Lib.hid h1
  have HI := Lib.hid hi; have HT := Lib.hid ht
  clear h h1 A hi ht
  generalize leftN L (i, t) = r at *
  generalize hb : leftB L (i, t) = b at *
  clear hb
  go_enter Try.func12, Try.ntmps12
  go_wp2_with fail
  go_quiet (fail)
  go_wp2_with fail
  have F2 : Foot (fun _ => False) w ((w.alloc (.cells #[.int .i64 i, .int .i64 t] 31)).drewN nq) := HF.out.drewN nq
  have H2 := H1.out.still ((Foot.refl (fun _ => False) _).drewN nq)
  have A2 : At ((w.alloc (.cells #[.int .i64 i, .int .i64 t] 31)).drewN nq) w.heap.size 31 #[.int .i64 i, .int .i64 t] := HA.out
  clear h0 hl HF H1 HA
  generalize (w.alloc (.cells #[.int .i64 i, .int .i64 t] 31)).drewN nq = wd at *
  have c0 : wd.cell? ⟨p, 0, none⟩ = some (.map mv) := H2.at_.cell 0
  have c1 : wd.cell? ⟨w.heap.size, 0, none⟩ = some (.int .i64 i) := A2.cell 0
  have c2 : wd.cell? ⟨w.heap.size, 1, none⟩ = some (.int .i64 t) := A2.cell 1
  have HM := Lib.hid (H2.map.keep (Foot.refl (fun _ => False) wd).drew fun _ _ => id)
  have HH := Lib.hid H2; have HF := Lib.hid F2
  clear A2 H2 F2
  go_still_tail 5, (by kernel_rfl)
  change wpList _ _ _ _ _ wd.drew
  go_wp2_with (at_delete; refine wpList_dropF rfl _ _ rfl HI.out HT.out rfl HM.out rfl ?_; intro w2 hm2 hf2 hs2)
  have HM2 := Lib.hid hm2
  have HF2 := Lib.hid ((Foot.refl (fun k => mv = some k) wd).drew.trans hf2 fun _ _ h => h)
  clear hm2 hf2 hs2 c0 c1 c2 HM
  go_wp2_with fail
  go_ret
  exact ⟨rfl, ⟨HH.out.at_.keep HF2.out HH.out.ne, HM2.out, HH.out.good.out _⟩, (HF.out.mono fun _ _ h => h.elim).trans HF2.out fun _ _ h => h⟩

theorem Arm_no (p : Nat) (mv : Option Nat) (L : TRows) (i t n : Int) (w : World) (h : WheelAt w p mv L) (hm : ¬ may (i, t) n) :
    Calls Try.prog 10 #[.pointer (some ⟨p, 0, none⟩), .agg #[.int .i64 i, .int .i64 t], .int .i64 n] w fun e w' => e = .returned (.int .i64 1) ∧ Foot (fun _ => False) w w' := by
  clear h
  unfold may at hm
  simp only at hm
  by_cases q1 : i < 0
  · clear hm
    go_enter Try.func10, Try.ntmps10
    go_wp2_with fail
    go_ret
    exact ⟨rfl, (Foot.refl _ w).alloc _⟩
  by_cases q2 : t < 0
  · have q1' := Int.not_lt.1 q1
    clear hm q1
    go_enter Try.func10, Try.ntmps10
    go_wp2_with fail
    go_ret
    exact ⟨rfl, (Foot.refl _ w).alloc _⟩
  by_cases q3 : n < 1
  · have q1' := Int.not_lt.1 q1
    have q2' := Int.not_lt.1 q2
    clear hm q1 q2
    go_enter Try.func10, Try.ntmps10
    go_wp2_with fail
    go_ret
    exact ⟨rfl, (Foot.refl _ w).alloc _⟩
  have q4 : 65536 < n := by omega
  have q1' := Int.not_lt.1 q1
  have q2' := Int.not_lt.1 q2
  have q3' : 1 ≤ n := by omega
  clear hm q1 q2 q3
  go_enter Try.func10, Try.ntmps10
  go_wp2_with fail
  go_ret
  exact ⟨rfl, (Foot.refl _ w).alloc _⟩

theorem Arm_there (p b : Nat) (L : TRows) (i t n : Int) (w : World) (h : WheelAt w p (some b) L) (hi : I64 i) (ht : I64 t) (hm : may (i, t) n) :
    Calls Try.prog 10 #[.pointer (some ⟨p, 0, none⟩), .agg #[.int .i64 i, .int .i64 t], .int .i64 n] w fun e w' => e = .returned (.int .i64 0) ∧ WheelAt w' p (some b) (armL (i, t) n L) ∧ Foot (fun k => k = b) w w' := by
  have HG := Lib.hid (h.good.arm hm ⟨hi.2, ht.2⟩)
  obtain ⟨⟨m1, m2⟩, m3, m4⟩ := hm
  simp only at m1 m2 m3 m4
  have HF : Hid (Foot (fun _ => False) w (w.alloc (.cells #[.int .i64 i, .int .i64 t] 31))) := Lib.hid ((Foot.refl _ w).alloc _)
  have h1 := h.still HF.out
  have h0 : (w.alloc (.cells #[.int .i64 i, .int .i64 t] 31)).cell? ⟨p, 0, none⟩ = some (.map (some b)) := h1.at_.cell 0
  have HA := Lib.hid (At.new w 31 #[.int .i64 i, .int .i64 t])
  have H1 := Lib.hid h1
  have HI := Lib.hid hi; have HT := Lib.hid ht
  have hn : ∀ w, (binOp BinOp.eql 53 (.map (some b)) (.map none)).run Try.prog w = .ok (.bool false) w := fun w => eq_nil (some b) w
  clear h h1 hi ht
  go_enter Try.func10, Try.ntmps10
  go_wp2_with fail
  clear h0 hn
  generalize w.alloc (.cells #[.int .i64 i, .int .i64 t] 31) = wd at *
  have c0 : wd.cell? ⟨p, 0, none⟩ = some (.map (some b)) := H1.out.at_.cell 0
  have c1 : wd.cell? ⟨w.heap.size, 0, none⟩ = some (.int .i64 i) := HA.out.cell 0
  have c2 : wd.cell? ⟨w.heap.size, 1, none⟩ = some (.int .i64 t) := HA.out.cell 1
  have HM := Lib.hid (H1.out.map.keep (Foot.refl (fun _ => False) wd).drew fun _ _ => id)
  clear HA
  go_still_tail 6, (by kernel_rfl)
  change wpList _ _ _ _ _ wd.drew
  go_wp2_with (at_mapUpdate; refine wpList_storeF rfl _ _ _ rfl HI.out HT.out rfl HM.out rfl rfl ?_; intro w2 hm2 hf2 hs2)
  have HM2 := Lib.hid (hm2.perm (ins_perm ((i, t), n) (out L (i, t))).symm)
  have HF2 := Lib.hid ((Foot.refl (fun k => k = b) wd).drew.trans hf2 fun _ _ h => h)
  clear hm2 hf2 hs2 c0 c1 c2 HM
  go_wp2_with fail
  go_ret
  exact ⟨rfl, ⟨H1.out.at_.keep HF2.out fun e => H1.out.ne (by rw [e]), HM2.out, HG.out⟩, (HF.out.mono fun _ _ h => h.elim).trans HF2.out fun _ _ h => h⟩

theorem Arm_first (p : Nat) (L : TRows) (i t n : Int) (w : World) (h : WheelAt w p none L) (hi : I64 i) (ht : I64 t) (hm : may (i, t) n) :
    Calls Try.prog 10 #[.pointer (some ⟨p, 0, none⟩), .agg #[.int .i64 i, .int .i64 t], .int .i64 n] w fun e w' => e = .returned (.int .i64 0) ∧ WheelAt w' p (some (w.heap.size + 1)) (armL (i, t) n L) ∧ Foot (fun k => k = p) w w' := by
  have HG := Lib.hid (h.good.arm hm ⟨hi.2, ht.2⟩)
  have HL : Hid (L = []) := Lib.hid h.map
  have HW := Lib.hid h
  obtain ⟨⟨m1, m2⟩, m3, m4⟩ := hm
  simp only at m1 m2 m3 m4
  have HF : Hid (Foot (fun _ => False) w (w.alloc (.cells #[.int .i64 i, .int .i64 t] 31))) := Lib.hid ((Foot.refl _ w).alloc _)
  have h1 := h.still HF.out
  have h0 : (w.alloc (.cells #[.int .i64 i, .int .i64 t] 31)).cell? ⟨p, 0, none⟩ = some (.map none) := h1.at_.cell 0
  have HA := Lib.hid (At.new w 31 #[.int .i64 i, .int .i64 t])
  have H1 := Lib.hid h1
  have hplt := h.at_.lt
  have f0 : ((w.alloc (.cells #[.int .i64 i, .int .i64 t] 31)).alloc (.map #[] 0)).frozen? ⟨p, 0, none⟩ = false := (h1.at_.alloc _).free 0
  have HI := Lib.hid hi; have HT := Lib.hid ht
  have hmm := @run_makeMap Try.prog
  have hn : ∀ w, (binOp BinOp.eql 53 (.map none) (.map none)).run Try.prog w = .ok (.bool true) w := fun w => eq_nil none w
  clear h h1 hi ht
  go_enter Try.func10, Try.ntmps10
  go_wp2_with fail
  clear h0 hn hmm f0
  have W1 : Hid (∃ wd, wd = ((w.setCell ⟨p, 0, none⟩ (.map (some (w.heap.size + 1)))).alloc (.cells #[.int .i64 i, .int .i64 t] 31)).alloc (.map #[] 0) ∧ At wd p 55 #[.map (some (w.heap.size + 1))] ∧ At wd w.heap.size 31 #[.int .i64 i, .int .i64 t] ∧ WMap wd (some (w.heap.size + 1)) [] ∧ Foot (fun k => k = p) w wd) := Lib.hid (by
      have hs : (w.setCell ⟨p, 0, none⟩ (.map (some (w.heap.size + 1)))).heap.size = w.heap.size := by simp [World.setCell]
      have h1 := HW.out.at_.set 0 (.map (some (w.heap.size + 1)))
      have h2 : Foot (fun k => k = p) w (w.setCell ⟨p, 0, none⟩ (.map (some (w.heap.size + 1)))) := (Foot.refl (fun k => k = p) w).setCell (p := ⟨p, 0, none⟩) (fun _ => rfl) _
      generalize w.setCell ⟨p, 0, none⟩ (.map (some (w.heap.size + 1))) = w1 at hs h1 h2
      refine ⟨_, rfl, (h1.alloc _).alloc _, ?_, ?_, (h2.alloc _).alloc _⟩
      · rw [← hs]; exact (At.new w1 _ _).alloc _
      · have h := MapV.made (P := Try.prog) (k := 31) (ek := ekF) (ev := Value.int .i64) (w1.alloc (.cells #[.int .i64 i, .int .i64 t] 31))
        rw [World.size_alloc, hs] at h
        exact h)
  obtain ⟨wd, hwd, hAt, hAb, hMap, hFt⟩ := W1.out
  rw [← hwd]
  have c0 : wd.cell? ⟨p, 0, none⟩ = some (.map (some (w.heap.size + 1))) := hAt.cell 0
  have c1 : wd.cell? ⟨w.heap.size, 0, none⟩ = some (.int .i64 i) := hAb.cell 0
  have c2 : wd.cell? ⟨w.heap.size, 1, none⟩ = some (.int .i64 t) := hAb.cell 1
  have HM := Lib.hid (hMap.keep (Foot.refl (fun _ => False) wd).drew fun _ _ => id)
  have HAt := Lib.hid hAt; have HFt := Lib.hid hFt
  clear hAt hAb hMap hFt hwd W1 HA HF H1
  go_still_tail 6, (by kernel_rfl)
  change wpList _ _ _ _ _ wd.drew
  go_wp2_with (at_mapUpdate; refine wpList_storeF rfl _ _ _ rfl HI.out HT.out rfl HM.out rfl rfl ?_; intro w2 hm2 hf2 hs2)
  have HM2 : Hid (WMap w2 (some (w.heap.size + 1)) (armL (i, t) n L)) := Lib.hid (by rw [HL.out]; exact hm2.perm (ins_perm ((i, t), n) (out [] (i, t))).symm)
  have HF2 := Lib.hid ((Foot.refl (fun k => k = w.heap.size + 1) wd).drew.trans hf2 fun _ _ h => h)
  clear hm2 hf2 hs2 c0 c1 c2 HM
  go_wp2_with fail
  go_ret
  exact ⟨rfl, ⟨HAt.out.keep HF2.out (by omega), HM2.out, HG.out⟩, HFt.out.trans HF2.out fun k hk e => by omega⟩
end Go.Proofs.Ytjpepnokijbhgaa.Whl
