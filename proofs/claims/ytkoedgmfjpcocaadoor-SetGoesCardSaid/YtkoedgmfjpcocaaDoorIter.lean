/- The iterator over a set: what it hands to the loop's body, round by round; it keeps what is left in cells of its own. -/
import Derived.RangeFuncNested
import Derived.RangeFuncBound
import Derived.RangeFuncCalls
import Derived.RangeFuncLeaves
import Derived.RangeFuncBox
import Derived.Shelf.Abstract
import Derived.Shelf.RegionOpen
import Derived.OwnWalkIn
import Derived.TacticsInMore
import Derived.LoopNIn
import Derived.LoopIn
import Derived.Maps.AppendAt
import Derived.Test.YtkoedgmfjpcocaaDoorSetAsk
namespace Go.Proofs.YtkoedgmfjpcocaaDoor.Sets
open Go.RowKit Go.Shelf Mem Words
set_option linter.unusedVariables false
attribute [local go_sem] Oper.semAt_some

/-- A block that holds a set. -/
def SetB (w : World) (k : Nat) : Prop := ∃ cs, At w k 28 cs
/-- What a round may not touch: the sets, and the table of math/bits. -/
structure Kp (w w' : World) : Prop where
  size : w.heap.size ≤ w'.heap.size
  sets : ∀ k cs, At w k 28 cs → At w' k 28 cs
  tab : w'.heap[0]? = w.heap[0]?
/-- What the iterator may do between two rounds: lay new blocks, and write those of its own sets. -/
def Tame (B : Nat) (w w' : World) : Prop := Foot (fun k => B ≤ k ∧ SetB w k) w w'
theorem Tame.of {B : Nat} {w w' : World} (h : Foot (fun _ => False) w w') : Tame B w w' := h.mono fun _ _ h => h.elim
theorem Kp.refl (w : World) : Kp w w := ⟨Nat.le_refl _, fun _ _ h => h, rfl⟩
theorem Kp.trans {w w1 w2 : World} (h : Kp w w1) (h2 : Kp w1 w2) : Kp w w2 := ⟨Nat.le_trans h.size h2.size, fun k cs h3 => h2.sets k cs (h.sets k cs h3), h2.tab.trans h.tab⟩
theorem Kp.tabs {w w' : World} (h : Kp w w') (hT : Tab w) : Tab w' := ⟨Nat.lt_of_lt_of_le hT.1 h.size, fun j hj => (World.cell?_of_block (w := w) (a := ⟨0, j, none⟩) h.tab).trans (hT.2 j hj)⟩

/-- How many numbers are left, read off the cells. -/
def left (v : Value) (w : World) : Nat :=
  match v with
  | .pointer (some a) => (match w.cell? ⟨a.block, 0, none⟩, w.cell? ⟨a.block, 1, none⟩ with
    | some (.int _ x), some (.int _ y) => cnt 64 x.toNat + cnt 64 y.toNat
    | _, _ => 0)
  | _ => 0
theorem left_eq {w : World} {b : Nat} {q : Nat → Bool} (h : At w b 28 #[.int .u64 (lo q : Nat), .int .u64 (hi q : Nat)]) : left (.pointer (some ⟨b, 0, none⟩)) w = (els q).length := by
  have c0 : w.cell? ⟨b, 0, none⟩ = some (.int .u64 (lo q : Nat)) := h.cell 0
  have c1 : w.cell? ⟨b, 1, none⟩ = some (.int .u64 (hi q : Nat)) := h.cell 1
  simp only [left, c0, c1, Int.toNat_natCast]
  exact (els_len q).symm

theorem At.newAt {w : World} {n : Nat} (t : TypeId) (cs : Array Value) (h : w.heap.size = n) : At (w.alloc (.cells cs t)) n t cs := by subst h; exact At.new _ _ _

set_option maxRecDepth 100000 in
set_option maxHeartbeats 1000000 in
theorem all_in (n : Nat) (hn : 1 ≤ n) (l Bx B : Nat) (p : Nat → Bool) (J Jx : List Nat → World → Prop) (hJ : ∀ s W W', J s W → Tame B W W' → J s W')
    (hY : ∀ pre x W, J pre W → (pre ++ [x]) <+: els p → YieldAt Fence.wide (n - 1) Tryd.prog l #[.int .i64 (x : Nat)] W fun e W' =>
      (e = .returned (.bool true) ∧ J (pre ++ [x]) W' ∧ Kp W W') ∨ (e = .returned (.bool false) ∧ Jx (pre ++ [x]) W'))
    (W : World) (hB : B ≤ W.heap.size) (hbox : At W Bx 28 #[.int .u64 (lo p : Nat), .int .u64 (hi p : Nat)]) (hT : Tab W) (h0 : J [] W) :
    CallsIn Fence.wide n Tryd.prog 29 #[.func (.yield l) #[] #[], .pointer (some ⟨Bx, 0, none⟩)] W fun e W' => (∃ v, e = .returned v) ∧
      (J (els p) W' ∨ ∃ pre x, (pre ++ [x]) <+: els p ∧ Jx (pre ++ [x]) W') := by
  have c0 : W.cell? ⟨Bx, 0, none⟩ = some (.int .u64 (lo p : Nat)) := hbox.cell 0
  have c1 : W.cell? ⟨Bx, 1, none⟩ = some (.int .u64 (hi p : Nat)) := hbox.cell 1
  have hlt := hbox.lt
  have HT := Lib.hid hT; have HJ := Lib.hid hJ; have HY := Lib.hid hY; have H0 := Lib.hid h0; have HX := Lib.hid hbox
  clear hT hJ hY h0 hbox
  refine callsIn_of_wp Tryd.func29 rfl trivial ?_ rfl
  simp only [Tryd.ntmps29, List.size_toArray, List.length_cons, List.length_nil, Nat.reduceAdd, Nat.reduceSub, Array.replicate_succ, Array.replicate_zero, List.push_toArray, List.append_toArray, List.nil_append, List.cons_append]
  gi_wp2
  gi_loopw [3] (fun v wr => ∃ (pre : List Nat) (q : Nat → Bool) (b : Nat), v = .pointer (some ⟨b, 0, none⟩) ∧ B ≤ b ∧ At wr b 28 #[.int .u64 (lo q : Nat), .int .u64 (hi q : Nat)] ∧ els p = pre ++ els q ∧ J pre wr ∧ Tab wr)
    (fun v wr => left v wr)
  case atStart =>
    have hF : Foot (fun _ => False) W (W.alloc (Obj.cells #[Value.int IntKind.u64 ((lo p : Nat) : Int), Value.int IntKind.u64 ((hi p : Nat) : Int)] 28)) := (Foot.refl _ W).alloc _
    exact ⟨[], p, W.heap.size, rfl, hB, At.new _ _ _, rfl, HJ.out _ _ _ H0.out (Tame.of hF), HT.out.foot hF id⟩
  case round =>
    obtain ⟨pre, q, b, rfl, hb, hA, hx, hJs, hT⟩ := hrel
    have d0 : wr.cell? ⟨b, 0, none⟩ = some (.int .u64 (lo q : Nat)) := hA.cell 0
    have d1 : wr.cell? ⟨b, 1, none⟩ = some (.int .u64 (hi q : Nat)) := hA.cell 1
    have HA := Lib.hid hA; have HX := Lib.hid hx; have HJs := Lib.hid hJs; have HT2 := Lib.hid hT
    clear hA hx hJs hT
    by_cases he : els q = []
    · have hq := Lib.hid fun w => (by have h := empty q w; rwa [decide_eq_true he] at h : Calls Tryd.prog 30 #[.agg #[.int .u64 (lo q : Nat), .int .u64 (hi q : Nat)]] w fun e w' => e = .returned (.bool true) ∧ Foot (fun _ => False) w w')
      have HE := Lib.hid he; clear he
      gi_wp2_with fail
      refine ⟨trivial, (callsIn_wide.2 (hq.out _)).mono ?_⟩
      rintro e w2 ⟨rfl, hF⟩
      have HF := Lib.hid hF; clear hF
      gi_wp2_with fail
      go_end0
      exact ⟨⟨_, rfl⟩, .inl (by rw [HX.out, HE.out, List.append_nil]; exact HJ.out _ _ _ HJs.out (Tame.of HF.out))⟩
    · have hq := Lib.hid fun w => (by have h := empty q w; rwa [decide_eq_false he] at h : Calls Tryd.prog 30 #[.agg #[.int .u64 (lo q : Nat), .int .u64 (hi q : Nat)]] w fun e w' => e = .returned (.bool false) ∧ Foot (fun _ => False) w w')
      obtain ⟨hf1, hf2⟩ := first_spec he
      have hf := Lib.hid fun w hT => first q w hT
      have hw := Lib.hid fun w => Without q (Words.first q : Nat) w (by omega)
      generalize Words.first q = x at *
      have hpre : Hid ((pre ++ [x]) <+: els p) := Lib.hid ⟨els (delP q x), by rw [HX.out, hf2]; simp⟩
      have hnx : Hid (els p = (pre ++ [x]) ++ els (delP q x)) := Lib.hid (by rw [HX.out, hf2]; simp)
      have hlen : Hid ((els q).length = (els (delP q x)).length + 1) := Lib.hid (by rw [hf2]; simp)
      clear he hf2
      gi_wp2_with fail
      refine ⟨trivial, (callsIn_wide.2 (hq.out _)).mono ?_⟩
      rintro e w2 ⟨rfl, hF⟩
      have e0 := hold hF d0
      have e1 := hold hF d1
      have HF := Lib.hid hF; clear hF
      gi_wp2_with fail
      refine ⟨trivial, (callsIn_wide.2 (hf.out _ (HT2.out.foot HF.out id))).mono ?_⟩
      rintro e w3 ⟨rfl, hF3⟩
      have HF3 := Lib.hid (HF.out.trans hF3 fun _ _ h => h); clear hF3
      obtain ⟨fn, tmps, assign, body, hy, hR⟩ := HY.out pre x w3 (HJ.out _ _ _ HJs.out (Tame.of HF3.out)) hpre.out
      gi_wp2_with fail
      refine hR.mono ?_
      rintro e w4 (⟨rfl, hJ4, hK4⟩ | ⟨rfl, hJx4⟩)
      · have A4 := hK4.sets _ _ (HA.out.keep HF3.out id)
        have T4 := Lib.hid (hK4.tabs (HT2.out.foot HF3.out id))
        have J4 := Lib.hid hJ4
        have k0 : w4.cell? ⟨b, 0, none⟩ = some (.int .u64 (lo q : Nat)) := A4.cell 0
        have k1 : w4.cell? ⟨b, 1, none⟩ = some (.int .u64 (hi q : Nat)) := A4.cell 1
        have HA4 := Lib.hid A4
        clear A4 hJ4 hK4 hR hy d0 d1 e0 e1
        gi_wp2_with fail
        refine ⟨trivial, (callsIn_wide.2 (hw.out _)).mono ?_⟩
        rintro e w5 ⟨rfl, hF5⟩
        have A5 := HA4.out.keep hF5 id
        have k0' : w5.cell? ⟨b, 0, none⟩ = some (.int .u64 (lo q : Nat)) := A5.cell 0
        have k1' : w5.cell? ⟨b, 1, none⟩ = some (.int .u64 (hi q : Nat)) := A5.cell 1
        have g0 := A5.free 0
        have g1 := A5.free 1
        have HA5 := Lib.hid A5; have HF5 := Lib.hid hF5
        have hb4 := HA4.out.lt
        clear A5 hF5
        gi_wp2_with fail
        go_roundw
        case rel =>
          refine ⟨pre ++ [x], delP q x, _, rfl, ?_, At.newAt _ _ (by simp [World.setCell]), hnx.out, ?_, ?_⟩
          · have := HF5.out.size
            have := Nat.le_trans hb (Nat.le_of_lt hb4)
            simp
            omega
          · refine HJ.out _ _ _ J4.out ?_
            have hs : B ≤ b ∧ SetB w4 b := ⟨hb, _, HA4.out⟩
            have h0 : Foot (fun k => B ≤ k ∧ SetB w4 k) w4 w5 := HF5.out.mono fun _ _ h => h.elim
            exact ((h0.setCell (p := ⟨b, 0, none⟩) (fun _ => hs) _).setCell (p := ⟨b, 1, none⟩) (fun _ => hs) _).alloc _
          · have hb0 : b ≠ 0 := by
              rintro rfl
              have := T4.out.2 0 (by omega)
              rw [HA4.out.cell 0] at this
              simp at this
            exact ((T4.out.foot HF5.out id).foot (S := fun k => k = b) (((Foot.refl (fun k => k = b) w5).setCell (p := ⟨b, 0, none⟩) (fun _ => rfl) _).setCell (p := ⟨b, 1, none⟩) (fun _ => rfl) _) (fun h => hb0 h.symm)).alloc _
        case measure =>
          rw [left_eq (q := delP q x) (At.newAt _ _ (by simp [World.setCell])), left_eq HA.out, hlen.out]
          omega
      · have HJx := Lib.hid hJx4
        clear hJx4 hR hy
        gi_wp2_with fail
        refine bodyPost_ret (results_none rfl _ _ _) rfl ?_
        exact ⟨⟨_, rfl⟩, .inr ⟨pre, x, hpre.out, HJx.out⟩⟩
end Go.Proofs.YtkoedgmfjpcocaaDoor.Sets
