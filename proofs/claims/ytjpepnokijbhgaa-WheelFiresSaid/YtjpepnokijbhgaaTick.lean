/- The contract of Wheel.Tick: what fires, in its order; what is left of the rest. -/
import Derived.Test.YtjpepnokijbhgaaWheel2
import Derived.Test.YtjpepnokijbhgaaOpen
import Derived.Maps.AppendAt
namespace Go.Proofs.Ytjpepnokijbhgaa.Whl
open Go.RowKit Mem MapK Tim MapF
set_option linter.unusedVariables false

theorem cells2_new (w : World) (x y : Value) (t : TypeId) : ∀ j u, [x, y][j]? = some u → (w.alloc (.cells #[x, y] t)).cell? ((⟨w.heap.size, 0, none⟩ : Addr).add j) = some u := by
  intro j u hj
  rw [Mem.add_plain, Nat.zero_add, (At.new w t #[x, y]).cell]
  exact (Array.getElem?_toList ..).symm.trans hj
theorem cells3_new (w : World) (x y z : Value) (t : TypeId) : ∀ j u, [x, y, z][j]? = some u → (w.alloc (.cells #[x, y, z] t)).cell? ((⟨w.heap.size, 0, none⟩ : Addr).add j) = some u := by
  intro j u hj
  rw [Mem.add_plain, Nat.zero_add, (At.new w t #[x, y, z]).cell]
  exact (Array.getElem?_toList ..).symm.trans hj
theorem info_F : (Try.prog.info? 31).map (fun i => (i.zero, i.size, i.bytes)) = some (some (.agg #[.int .i64 0, .int .i64 0]), 2, 16) := by kernel_rfl

/-- A slice of timers of the call's own: its block is lo or later. -/
structure Firing (w : World) (lo : Nat) (v : Value) (l : List F) : Prop where
  items : Items w 31 2 v l.length (flat2 l)
  own : ∀ g, v.ownBlock = some g → lo ≤ g
section
variable {w w1 : World} {lo : Nat} {v : Value} {l : List F} {S : Nat → Prop}
theorem Firing.keep (h : Firing w lo v l) (hf : Foot S w w1) (hs : ∀ g, v.ownBlock = some g → ¬ S g) : Firing w1 lo v l := ⟨h.items.keep hf hs, h.own⟩
theorem Firing.still (h : Firing w lo v l) (hf : Foot (fun _ => False) w w1) : Firing w1 lo v l := h.keep hf fun _ _ => id
theorem Firing.old (h : Firing w lo v l) (hf : Foot S w w1) (hs : ∀ k, S k → k < lo) : Firing w1 lo v l := h.keep hf fun g hg e => by have := hs g e; have := h.own g hg; omega
end

/-- Where the loop over the map stands. -/
structure Run (W wr : World) (mv : Option Nat) (L : TRows) (v : Value) (D T : TRows) : Prop where
  items : Items wr 31 2 v (came D).length (flat2 (came D))
  own : ∀ g, v.ownBlock = some g → W.heap.size < g ∧ mv ≠ some g
  go : WGo wr mv W.heap.size (kept D) T
  perm : (D ++ T).Perm L
  foot : Foot (fun k => mv = some k) W wr
section
variable {W wr w2 : World} {mv : Option Nat} {L D T T' : TRows} {v : Value} {i t y : Int}
theorem Run.mem (h : Run W wr mv L v (((i, t), y) :: D) T) : ((i, t), y) ∈ L := h.perm.mem_iff.1 (List.mem_append_left _ (List.mem_cons_self ..))
/-- An entry comes: all but what is made of it. -/
structure Step (W w2 : World) (mv : Option Nat) (L : TRows) (v : Value) (D T' : TRows) (i t y : Int) : Prop where
  items : Items w2 31 2 v (came D).length (flat2 (came D))
  own : ∀ g, v.ownBlock = some g → W.heap.size < g ∧ mv ≠ some g
  go : WGo w2 mv W.heap.size (((i, t), y) :: kept D) T'
  perm : (((i, t), y) :: D ++ T').Perm L
  foot : Foot (fun k => mv = some k) W w2
theorem Run.step (h : Run W wr mv L v D T) (hp : T.Perm (((i, t), y) :: T')) (hg : WGo w2 mv W.heap.size (((i, t), y) :: kept D) T') (hf : Foot (fun j => j = W.heap.size) wr w2) : Step W w2 mv L v D T' i t y :=
  ⟨h.items.keep hf fun g hg' e => by have := (h.own g hg').1; omega, h.own, hg, ((List.perm_middle (l₁ := D) (l₂ := T') (a := ((i, t), y))).symm.trans (hp.symm.append_left D)).trans h.perm, h.foot.trans hf fun k hk e => by omega⟩
theorem Step.still {w3 : World} (h : Step W w2 mv L v D T' i t y) (hf : Foot (fun _ => False) w2 w3) : Step W w3 mv L v D T' i t y :=
  ⟨h.items.keep hf fun _ _ => id, h.own, h.go.keep hf (fun _ _ => id) id, h.perm, h.foot.trans hf fun _ _ h => h.elim⟩
theorem Step.mem (h : Step W w2 mv L v D T' i t y) : ((i, t), y) ∈ L := h.perm.mem_iff.1 (List.mem_append_left _ (List.mem_cons_self ..))
/-- It runs on. -/
theorem Step.more {w3 : World} (h : Step W w2 mv L v D T' i t y) (hy : y ≠ 1) (hg : WGo w3 mv W.heap.size (((i, t), y - 1) :: kept D) T') (hf : Foot (fun j => mv = some j) w2 w3) : Run W w3 mv L v (((i, t), y) :: D) T' :=
  ⟨by rw [came_more D hy]; exact h.items.keep hf fun g hg' e => (h.own g hg').2 e, h.own, by rw [kept_more D hy]; exact hg, h.perm, h.foot.trans hf fun _ _ h => h⟩
/-- It fires: it is struck, and not yet told. -/
structure Mid (W w2 : World) (mv : Option Nat) (L : TRows) (v : Value) (D T' : TRows) (i t : Int) : Prop where
  items : Items w2 31 2 v (came D).length (flat2 (came D))
  own : ∀ g, v.ownBlock = some g → W.heap.size < g ∧ mv ≠ some g
  go : WGo w2 mv W.heap.size (kept D) T'
  perm : (((i, t), 1) :: D ++ T').Perm L
  foot : Foot (fun k => mv = some k) W w2
  box : w2.cell? ⟨W.heap.size, 0, none⟩ = none ∨ True
theorem Step.fire {w3 : World} (h : Step W w2 mv L v D T' i t 1) (hg : WGo w3 mv W.heap.size (kept D) T') (hf : Foot (fun j => mv = some j) w2 w3) : Mid W w3 mv L v D T' i t :=
  ⟨h.items.keep hf fun g hg' e => (h.own g hg').2 e, h.own, hg, h.perm, h.foot.trans hf fun _ _ h => h, .inr trivial⟩
theorem Mid.still {w3 : World} (h : Mid W w2 mv L v D T' i t) (hf : Foot (fun _ => False) w2 w3) : Mid W w3 mv L v D T' i t :=
  ⟨h.items.keep hf fun _ _ => id, h.own, h.go.keep hf (fun _ _ => id) id, h.perm, h.foot.trans hf fun _ _ h => h.elim, .inr trivial⟩
/-- It is told. -/
theorem Mid.told {w3 : World} {v' : Value} (h : Mid W w2 mv L v D T' i t) (hi : Items w3 31 2 v' ((came D).length + 1) (flat2 (came D) ++ [.int .i64 i, .int .i64 t])) (hf : Foot (fun k => v.ownBlock = some k) w2 w3) (hm : Moved w2 v v') : Run W w3 mv L v' (((i, t), 1) :: D) T' := by
  have hr := h.go.lt
  refine ⟨by rw [came_fire, List.length_append, flat2_append]; exact hi, fun g hg => ?_, by rw [kept_fire]; exact h.go.keep hf (fun j hj e => (h.own j e).2 hj) fun e => by have := (h.own _ e).1; omega, h.perm, h.foot.trans hf fun k hk e => by have := (h.own k e).1; omega⟩
  rcases hm g hg with h1 | h1
  · exact h.own g h1
  · refine ⟨by omega, fun e => ?_⟩
    subst e
    have := h.go.map.lt
    omega
theorem Run.len (h : Run W wr mv L v D T) : (came D).length + T.length ≤ L.length := by
  have h1 := h.perm.length_eq
  rw [List.length_append] at h1
  have h2 : (came D).length ≤ D.length := by
    unfold came
    rw [List.length_reverse]
    exact length_fired D
  omega
end

theorem Tick (p : Nat) (mv : Option Nat) (L : TRows) (w : World) (h : WheelAt w p mv L) (hlen : L.length ≤ 1000000) :
    Calls Try.prog 17 #[.pointer (some ⟨p, 0, none⟩)] w fun e w' => ∃ a c, e = .returned (.slice a (firedL L).length c) ∧ WheelAt w' p mv (tickL L) ∧ Firing w' w.heap.size (.slice a (firedL L).length c) (firedL L) ∧ Foot (fun k => mv = some k) w w' := by
  have c0 : w.cell? ⟨p, 0, none⟩ = some (.map mv) := h.at_.cell 0
  obtain ⟨i0, hi, hz0, hz1, hz2⟩ := info_parts info_F
  have HM := Lib.hid h.map
  have HW := Lib.hid h
  have hp := h.at_.lt
  have HS := Lib.hid fun (v : Value) (l : List F) (w : World) (hI : Items w 31 2 v l.length (flat2 l)) (hq : l.Perm (firedL L)) => Srt.SortFunc v l (firedL L) w hI hq h.good.fired (by have := hq.length_eq; have := length_fired L; omega)
  have hVal := Lib.hid h.good.vals
  generalize hl : L.length = n at *
  have HL := Lib.hid hl
  clear h hl
  go_enter Try.func17, Try.ntmps17
  go_wp2_with (at_range; refine wpList_rangeF rfl _ rfl rfl HM.out ?_; intro w0 hg0 hf0 hs0)
  go_frame
  have HR : Hid (Run w w0 mv L (.slice none 0 0) [] L) := Lib.hid ⟨Items.nil _ _ _, fun g hg => by simp [Value.ownBlock] at hg, hg0, List.Perm.refl _, hf0.mono fun _ _ h => h.elim⟩
  clear hg0 hf0 hs0 c0
  go_loopg [3] n (fun k v wr => ∃ D T, T.length = k ∧ Hid (Run w wr mv L v D T))
  case atStart => exact ⟨[], L, HL.out, HR⟩
  case round =>
    obtain ⟨D, T, hgk, HR1⟩ := hrel
    have HGK := Lib.hid hgk; clear hgk HR
    go_wp2_with (at_next; refine wpList_nextF rfl _ rfl rfl HR1.out.go ?_ ?_)
    · intro hT
      have hPL : D.Perm L := by
        have := HR1.out.perm
        rwa [hT, List.append_nil] at this
      have HM2 : Hid (WMap wr mv (tickL L)) := Lib.hid (by
        have := HR1.out.go.map
        rw [hT, List.append_nil] at this
        exact this.perm (kept_perm hPL))
      have HA2 := Lib.hid (HW.out.at_.keep HR1.out.foot HW.out.ne)
      have HC := Lib.hid (HS.out u3 (came D) wr HR1.out.items (came_perm hPL))
      clear hT hPL HS hVal
      go_wp2_with fail
      refine HC.out.mono ?_
      rintro e w3 ⟨rfl, hI, hF⟩
      obtain ⟨a, cap, hv, _, _⟩ := hI.shape
      have HI := Lib.hid hI; have HF := Lib.hid hF
      have HV := Lib.hid hv
      clear hI hF hv HC
      go_wp2_with fail
      go_ret
      refine ⟨a, cap, by rw [HV.out]; rfl, ⟨HA2.out.keep HF.out fun e => by have := (HR1.out.own _ e).1; omega, HM2.out.keep HF.out fun b hb e => (HR1.out.own b e).2 hb, HW.out.good.tick⟩, ⟨by rw [← HV.out]; exact HI.out, fun g hg => by rw [← HV.out] at hg; have := (HR1.out.own g hg).1; omega⟩, HR1.out.foot.trans HF.out fun k hk e => by have := (HR1.out.own k e).1; omega⟩
    · intro i t y T' w2 hp2 hg2 hf2 hs2 hen
      have HT2 : Hid (T.length = T'.length + 1) := Lib.hid hp2.length_eq
      have HLen := Lib.hid HR1.out.len
      have HE := Lib.hid (HR1.out.step hp2 hg2 hf2)
      have HK := Lib.hid (HW.out.keys HE.out.mem)
      have HV := Lib.hid (hVal.out _ HE.out.mem)
      clear hp2 hg2 hf2 hs2 HR1
      have hlt2 : w.heap.size ≤ w2.heap.size := HE.out.foot.size
      have h1 : Hid (∃ wd, wd = w2.alloc (.cells #[.int .i64 i, .int .i64 t] 31) ∧ At wd p 55 #[.map mv] ∧ At wd w2.heap.size 31 #[.int .i64 i, .int .i64 t] ∧ Step w wd mv L u3 D T' i t y) :=
        Lib.hid ⟨_, rfl, (HW.out.at_.keep HE.out.foot HW.out.ne).alloc _, At.new _ _ _, HE.out.still ((Foot.refl (fun _ => False) w2).alloc _)⟩
      by_cases hy : y = 1
      · subst hy
        go_wp2_with fail
        obtain ⟨wd, hwd, hAt, hAb, hE⟩ := h1.out
        rw [← hwd]
        have c0 : wd.cell? ⟨p, 0, none⟩ = some (.map mv) := hAt.cell 0
        have c1 : wd.cell? ⟨w2.heap.size, 0, none⟩ = some (.int .i64 i) := hAb.cell 0
        have c2 : wd.cell? ⟨w2.heap.size, 1, none⟩ = some (.int .i64 t) := hAb.cell 1
        have HAb := Lib.hid hAb
        have HE2 := Lib.hid (hE.still (Foot.refl (fun _ => False) wd).drew)
        clear hAt hAb hE hwd h1 HE hen
        go_still_tail 5, (by kernel_rfl)
        change wpList _ _ _ _ _ wd.drew
        have HLn := Lib.hid (show (came D).length + 1 ≤ 1000000 by have := HLen.out; have := HT2.out; have := HL.out; omega)
        go_wp2_with (first
          | (at_delete; refine wpList_redropM rfl _ _ rfl HK.out.1 HK.out.2 rfl HE2.out.go rfl ?_; intro w3 hg3 hf3 hs3
             have HMid := Lib.hid (HE2.out.fire hg3 hf3)
             have hAb3 : At w3 w2.heap.size 31 #[.int .i64 i, .int .i64 t] := HAb.out.keep (S := fun j => mv = some j) ((Foot.refl (fun j => mv = some j) wd).drew.trans hf3 fun _ _ h => h) (HE2.out.go.map.ne (HAb.out.drewN 1))
             have c1 : w3.cell? ⟨w2.heap.size, 0, none⟩ = some (.int .i64 i) := hAb3.cell 0
             have c2 : w3.cell? ⟨w2.heap.size, 1, none⟩ = some (.int .i64 t) := hAb3.cell 1
             clear hg3 hf3 hs3 HE2 hAb3 HAb)
          | (at_builtin; refine wpList_append rfl (.tmp 32) (.tmp 34) 39 rfl 31 i0 (.agg #[.int .i64 0, .int .i64 0]) 2 Try.underlying39 hi hz0 hz1 rfl rfl (HMid.out.items.alloc _) ⟨w3.heap.size, 0, none⟩ 1 1 [.int .i64 i, .int .i64 t] rfl rfl (cells2_new _ _ _ _) (by simp [Value.oneCell']) (by omega) (by have := HLn.out; unfold maxLen; omega) (by have := HLn.out; rw [hz2]; omega) ?_
             intro a' c' w4 hI4 hF4 hM4
             have HR4 := Lib.hid ((HMid.out.still ((Foot.refl (fun _ => False) w3).alloc _)).told hI4 hF4 hM4)
             clear hI4 hF4 hM4 HMid))
        go_wp2_with fail
        go_roundg (T'.length)
        case measure => have := HGK.out; have := HT2.out; omega
        case rel => exact ⟨_, T', rfl, HR4⟩
      · have hy1 : 1 < y := by have := HV.out; simp only at this; omega
        have hyu : y ≤ 65536 := by have := HV.out; simp only at this; omega
        have hw : IntKind.i64.wrap (y - 1) = y - 1 := by rw [IntKind.wrap_i64]; omega
        have HY := Lib.hid hy
        clear hy
        go_wp2_with fail
        obtain ⟨wd, hwd, hAt, hAb, hE⟩ := h1.out
        rw [← hwd]
        have c0 : wd.cell? ⟨p, 0, none⟩ = some (.map mv) := hAt.cell 0
        have c1 : wd.cell? ⟨w2.heap.size, 0, none⟩ = some (.int .i64 i) := hAb.cell 0
        have c2 : wd.cell? ⟨w2.heap.size, 1, none⟩ = some (.int .i64 t) := hAb.cell 1
        have HE2 := Lib.hid (hE.still (Foot.refl (fun _ => False) wd).drew)
        clear hAt hAb hE hwd h1 HE hen
        go_still_tail 7, (by kernel_rfl)
        change wpList _ _ _ _ _ wd.drew
        go_wp2_with (at_mapUpdate; refine wpList_restoreM rfl _ _ _ rfl HK.out.1 HK.out.2 rfl HE2.out.go rfl rfl ?_; intro w3 hg3 hf3 hs3)
        have HR4 := Lib.hid (HE2.out.more HY.out hg3 hf3)
        clear hg3 hf3 hs3 HE2 c0 c1 c2
        go_wp2_with fail
        go_roundg (T'.length)
        case measure => have := HGK.out; have := HT2.out; omega
        case rel => exact ⟨_, T', rfl, HR4⟩
end Go.Proofs.Ytjpepnokijbhgaa.Whl
