/- Who goes through a set made of any list meets its numbers, rising, as long as he asks for more. No condition; the table of math/bits is laid as its initialiser lays it (tied). -/
import Derived.Test.YtkoedgmfjpcocaaDoorRows
import Derived.WalkKit
import Derived.ProofKit
import Derived.OpenShut
import Derived.ShutString
import Derived.ChangeOld
import Derived.Below
import Derived.Test.YtkoedgmfjpcocaaDoorLaw3b
import Derived.Test.YtkoedgmfjpcocaaDoorOpen
import Derived.Deep.RegionHeld3
import Derived.Laws.Small
import Derived.Test.YtkoedgmfjpcocaaDoorCards
import Derived.Test.YtkoedgmfjpcocaaDoorTie
import Derived.Test.YtkoedgmfjpcocaaDoorTab
import Derived.SevenTiedAt
import Derived.LaidMore
import Derived.Stop.Joined
namespace Go.Proofs.YtkoedgmfjpcocaaDoor.setGoes
open Go.ChangeShapes Go.WideShapes Go.ChangeAt Go.RowKit
open Go.ChangeMaps (open_string shut_string)
set_option linter.unusedVariables false
set_option linter.unusedSimpArgs false

open Go.Proofs.YtkoedgmfjpcocaaDoor.Sets (listed door_met of_laid)
theorem own : ownKnob Tryd.prog.godebug = none := by kernel_rfl
theorem laidOut : laidOutB Tryd.prog = true := by kernel_rfl
open Mem Words
open Sets (Tab)
attribute [local go_sem] Oper.semAt_some

theorem openA0 {H : Type} {enc : TypeId × Value → H} {w : World} {a : Option Addr} {len cap : Nat} {d : DataW H} {p : List MemPlace} (h : DataW.Trod enc Tryd.prog w 0 (fun _ => true) true 22 (.slice a len cap) d p) : ∃ zs, IntsIn w a len cap zs :=
  open_ints_in Tryd.underlying22 Tryd.underlying3 (by kernel_rfl) h

/-- A closure is not nil. -/
theorem func_nil (f : FuncId) (c : Value) (W : World) : Sem.run Tryd.prog (binOp .eql 45 (.func (.func f) #[] #[c]) .nilFunc) W = .ok (.bool false) W := by kernel_rfl

/-- What the loop holds: the list so far in its box, the set, how many are asked for. -/
structure Going (w W : World) (bm bx bg m : Nat) (x : Nat → Bool) (ys : List Int) (ao : Option Addr) (co : Nat) : Prop where
  box : At W bg 22 #[.slice ao ys.length co]
  coll : Sets.Coll w W (.slice ao ys.length co) ys
  set : Sets.Box W bx x
  most : At W bm 5 #[.int .u8 (m : Nat)]
theorem Going.still {w W W' : World} {B bm bx bg m : Nat} {x : Nat → Bool} {ys : List Int} {ao : Option Addr} {co : Nat} (h : Going w W bm bx bg m x ys ao co) (hS : Sets.Still B W W') (hB : w.heap.size ≤ B) (hm : bm < B) (hx : bx < B) : Going w W' bm bx bg m x ys ao co :=
  ⟨Sets.box_still h.box hS, h.coll.still hS hB, At.keep h.set hS fun h => absurd h.1 (by omega), h.most.keep hS fun h => absurd h.1 (by omega)⟩
def So (w : World) (bm bx bg m : Nat) (x : Nat → Bool) (pre : List Nat) (W : World) : Prop := pre.length ≤ m ∧ ∃ ao co, Going w W bm bx bg m x (Refs.nums pre) ao co
def Out (w : World) (bm bx bg m : Nat) (x : Nat → Bool) (id : Nat) (xs : List Nat) (W : World) : Prop := id = 0 ∧ ∃ pre y, xs = pre ++ [y] ∧ pre.length = m ∧ So w bm bx bg m x pre W

theorem hold2 {wr w' : World} {p q : Addr} {u v : Value} (k0 : wr.cell? p = some u) (k1 : wr.cell? q = some v) (h : Hid (Foot (fun _ => False) wr w')) :
    w'.cell? p = some u ∧ w'.cell? q = some v ∧ Hid (Foot (fun _ => False) wr w') := ⟨Sets.hold h.out k0, Sets.hold h.out k1, h⟩
theorem hstep {wr wx wy : World} (hF : Foot (fun _ => False) wx wy) (h : Hid (Foot (fun _ => False) wr wx)) : Hid (Foot (fun _ => False) wr wy) := Lib.hid (h.out.trans hF fun _ _ h => h)
theorem reads_take {w : World} {a : Option Addr} {n m : Nat} {zs : List Int} (h : ReadsI w a n zs) (hm : m ≤ n) : ReadsI w a m (zs.take m) := by
  refine ⟨by rw [List.length_take, h.1]; omega, fun h0 => ?_⟩
  obtain ⟨b, off, rfl, hc⟩ := h.2 (by omega)
  refine ⟨b, off, rfl, fun j hj => ?_⟩
  rw [hc j (by omega), List.getD_eq_getElem?_getD, List.getD_eq_getElem?_getD, List.getElem?_take, if_pos hj]
theorem take_of_prefix {pre : List Nat} {y : Nat} {l : List Nat} (h : (pre ++ [y]) <+: l) : pre.length < l.length ∧ Refs.nums pre = (Refs.nums l).take pre.length := by
  obtain ⟨t, rfl⟩ := h
  refine ⟨by simp, ?_⟩
  unfold Refs.nums
  rw [← List.map_take, List.append_assoc, List.take_left]

set_option maxHeartbeats 2000000 in
set_option maxRecDepth 100000 in
theorem walk (a0 : Option Addr) (len0 cap0 : Nat) (z0 : List Int) (a1 : Int) (w : World) (w0 : IntsIn w a0 len0 cap0 z0) (w1 : (Lit.int .u8 a1).wf = true) (hT : Tab w) :
    Calls Tryd.prog 7 #[.slice a0 len0 cap0, .int .u8 a1] w fun e w' => e = .returned (.bool true) ∧ Below w.heap.size w w' := by
  have hm : 0 ≤ a1 ∧ a1 ≤ 255 := by
    simp [Lit.wf, IntKind.min, IntKind.max, IntKind.bits, IntKind.signed] at w1
    omega
  obtain ⟨m, rfl⟩ : ∃ m : Nat, a1 = m := ⟨a1.toNat, by omega⟩
  have hm : m ≤ 255 := by omega
  clear w1
  have hz0 := Nat.le_trans w0.le w0.max
  unfold maxLen at hz0
  have W0 := Lib.hid w0
  have HT := Lib.hid hT
  clear w0 hT
  have CK := Lib.hid fun w hT => Sets.known w hT
  have CF0 := Lib.hid fun w => Sets.few a0 len0 cap0 w hz0
  by_cases hl : len0 ≤ 300
  case neg =>
    have CF := Lib.hid fun w => (by have h := CF0.out w; rwa [decide_eq_false hl] at h : Calls Tryd.prog 8 #[.slice a0 len0 cap0] w fun e w' => e = .returned (.bool false) ∧ w = w')
    clear CF0 hl
    go_enter Tryd.func7, Tryd.ntmps7
    go_wp2_with fail
    refine (CF.out _).mono ?_
    rintro e w3 ⟨rfl, rfl⟩
    go_wp2_with fail
    refine (CK.out _ (HT.out.alloc _)).mono ?_
    rintro e w4 ⟨rfl, hF⟩
    have HF := Lib.hid (((Foot.refl (fun _ => False) w).alloc _).trans hF fun _ _ h => h); clear hF
    go_wp2_with fail
    go_ret
    exact ⟨rfl, Sets.Foot.bel HF.out⟩
  have D0 := Lib.hid fun w => (by have h := CF0.out w; rwa [decide_eq_true hl] at h : Calls Tryd.prog 8 #[.slice a0 len0 cap0] w fun e w' => e = .returned (.bool true) ∧ w = w')
  clear CF0
  have O0 := Lib.hid fun w hr => Sets.Of a0 len0 cap0 z0 w hr hz0 W0.out.fits
  have RW0 := Lib.hid W0.out.reads
  clear W0
  generalize ofP z0 = x at *
  have CA := Lib.hid fun w => Sets.All x w
  have CL := Lib.hid fun w hT => Sets.ListOf x w hT
  have hxn : (Refs.nums (els x)).length ≤ 128 := by rw [Sets.nums_len]; exact els_le x
  obtain ⟨i0, hii, hz0', hz1, hz2⟩ := info_parts Refs.info_int
  refine (callsIn_wide (n := 5)).1 ?_
  refine callsIn_of_wp_marks Tryd.func7 rfl trivial ?_ rfl
  refine wpIn_wide.2 ?_
  simp only [Tryd.ntmps7, List.size_toArray, List.length_cons, List.length_nil, Nat.reduceAdd, Nat.reduceSub, Array.replicate_succ, Array.replicate_zero, List.push_toArray, List.append_toArray, List.nil_append, List.cons_append]
  go_wp2_with fail
  refine (D0.out _).mono ?_
  rintro e w3 ⟨rfl, rfl⟩
  go_wp2_with fail
  refine (O0.out _ (RW0.out.keep ((Foot.refl (fun _ => False) w).alloc _) fun _ _ => id)).mono ?_
  rintro e w3 ⟨rfl, hF3⟩
  have M3 := Lib.hid ((At.new w 5 #[.int .u8 (m : Nat)]).keep hF3 id)
  have F3 := Lib.hid (((Foot.refl (fun _ => False) w).alloc _).trans hF3 fun _ _ h => h); clear hF3
  go_wp2_with fail
  refine (CA.out _).mono ?_
  rintro e w4 ⟨rfl, hbx, hF4⟩
  rw [World.size_alloc] at hbx
  have M4 := Lib.hid ((M3.out.alloc _).keep hF4 id)
  have X4 : Hid (Sets.Box w4 w3.heap.size x) := Lib.hid ((At.new w3 _ _).keep hF4 id)
  have F4 := Lib.hid ((F3.out.alloc _).trans hF4 fun _ _ h => h)
  have HB := Lib.hid hbx
  have hsz := hF4.size
  clear hF4 hbx M3
  have hnf := func_nil 29 (.pointer (some ⟨w3.heap.size + 1, 0, none⟩)) w4
  go_wp2_with fail
  obtain ⟨w5, hw5⟩ : ∃ w5, w4.alloc (.cells #[.slice none 0 0] 22) = w5 := ⟨_, rfl⟩
  rw [hw5]
  have F5 : Hid (Foot (fun _ => False) w4 w5) := Lib.hid (by rw [← hw5]; exact (Foot.refl _ w4).alloc _)
  have G5 : Hid (So w w.heap.size w3.heap.size w4.heap.size m x [] w5) := Lib.hid
    ⟨Nat.zero_le _, none, 0, by rw [← hw5]; exact At.new _ _ _, ⟨⟨Items.nil _ _ _, (fun g h => by cases h), F4.out.trans F5.out fun _ _ h => h⟩, fun g h => by cases h⟩, X4.out.foot F5.out, M4.out.keep F5.out id⟩
  have HB5 := Lib.hid (HB.out.keep F5.out id)
  have T5 := Lib.hid (HT.out.foot (F4.out.trans F5.out fun _ _ h => h) id)
  have hs1 := F3.out.size
  have hs2 : w3.heap.size < w4.heap.size := X4.out.lt
  have hs3 : w4.heap.size + 1 = w5.heap.size := by rw [← hw5]; simp
  clear hw5 hnf
  -- what stands behind the loop, whichever way it was left: the first m of the set's numbers
  refine (wpIn_wide (n := 5)).1 ?_
  refine Sets.range_all (n := 5) (by omega) (Bx := w3.heap.size + 1) rfl rfl x HB5.out T5.out
    (So w w.heap.size w3.heap.size w4.heap.size m x) (Out w w.heap.size w3.heap.size w4.heap.size m x) ?hI ?hIx G5.out
    (fun y => { tmps := #[.slice a0 len0 cap0, .int .u8 (m : Nat), undef, .pointer (some ⟨w.heap.size, 0, none⟩), .bool false, .pointer (some ⟨w3.heap.size, 0, none⟩),
        .func (.func 29) #[] #[.pointer (some ⟨w3.heap.size + 1, 0, none⟩)], .pointer (some ⟨w4.heap.size, 0, none⟩), .int .i64 (y : Nat), undef, .slice a0 len0 cap0, .bool true, .bool false, undef, .slice a0 len0 cap0,
        .agg #[.int .u64 (lo x : Nat), .int .u64 (hi x : Nat)], .agg #[.int .u64 (lo x : Nat), .int .u64 (hi x : Nat)], .func (.func 29) #[] #[.pointer (some ⟨w3.heap.size + 1, 0, none⟩)],
        .func (.func 29) #[] #[.pointer (some ⟨w3.heap.size + 1, 0, none⟩)], .bool false, .func (.func 29) #[] #[.pointer (some ⟨w3.heap.size + 1, 0, none⟩)], .int .i64 (y : Nat),
        undef, undef, undef, undef, undef, undef, undef, undef, undef, undef, undef, undef, undef, undef, undef, undef, undef, undef, undef, undef, undef, undef, undef], defers := [] }) ?assign ?body ?done ?stop
  case hI =>
    rintro pre W W' ⟨h1, ao, co, hG⟩ hS
    exact ⟨h1, ao, co, hG.still hS (by omega) (by omega) (by omega)⟩
  case hIx =>
    rintro id xs W W' ⟨h1, pre, y, h2, h3, h4, ao, co, hG⟩ hS
    exact ⟨h1, pre, y, h2, h3, h4, ao, co, hG.still hS (by omega) (by omega) (by omega)⟩
  case assign =>
    intro l y W K hK
    gi_wp2
    exact hK
  case body =>
    rintro l pre y W ⟨hle, ao, co, hG⟩ hpre
    have hlen : (Refs.nums pre).length + 1 ≤ 128 := by
      have h1 := hpre.length_le
      have h2 := els_le x
      rw [Sets.nums_len]
      simp at h1
      omega
    have hnl := Lib.hid (Sets.nums_len pre)
    have hpp := Lib.hid (Sets.nums_snoc pre y)
    have k0 : W.cell? ⟨w4.heap.size, 0, none⟩ = some (.slice ao (Refs.nums pre).length co) := hG.box.cell 0
    have k1 : W.cell? ⟨w.heap.size, 0, none⟩ = some (.int .u8 (m : Nat)) := hG.most.cell 0
    have HG := Lib.hid hG
    clear hG
    by_cases he : pre.length = m
    · have ht : ((((Refs.nums pre).length : Nat) : Int) == (m : Int)) = true := by rw [hnl.out, he]; simp
      have HE := Lib.hid he; clear he
      gi_wp2
      exact ⟨⟨Sets.Kp.refl _, fun _ _ _ h _ => h⟩, rfl, pre, y, rfl, HE.out, hle, ao, co, HG.out⟩
    · have ht : ((((Refs.nums pre).length : Nat) : Int) == (m : Int)) = false := by rw [beq_eq_false_iff_ne, hnl.out]; omega
      have hle2 : pre.length + 1 ≤ m := by omega
      have hne : Hid ((Value.slice ao (Refs.nums pre).length co).ownBlock ≠ some w4.heap.size) := Lib.hid fun e => by
        obtain ⟨cs, h⟩ := HG.out.coll.blk _ e
        have := (h.eq HG.out.box).1
        cases this
      clear he
      generalize Refs.nums pre = ys at *
      gi_wp2_with (gi_at_builtin; refine Sets.wpListIn_append rfl (.tmp 27) (.tmp 29) 22 rfl 3 i0 (.int .i64 0) 1 Tryd.underlying22 hii hz0' hz1 rfl rfl (HG.out.coll.has.items.alloc _) ⟨W.heap.size, 0, none⟩ 1 1 [.int .i64 (y : Nat)] rfl rfl (cell_one_new _ _ _) (by simp [Value.oneCell']) (by omega) (by unfold maxLen; omega) (by rw [hz2]; omega) ?_; intro a' c' w7 hI hF hM; have B3 := ((HG.out.box.alloc _).keep hF hne.out); have k2 : w7.cell? ⟨w4.heap.size, 0, none⟩ = some (.slice ao ys.length co) := B3.cell 0; have k3 := B3.free 0; have HI := Lib.hid hI; have HF := Lib.hid hF; have HMv := Lib.hid hM; have HB3 := Lib.hid B3; clear hI hF hM B3)
      have hne2 : (Value.slice a' (ys.length + 1) c').ownBlock ≠ some w4.heap.size := (HMv.out.apart hne.out (by have := HG.out.box.lt; simp; omega))
      have hF7 : Foot (fun k => k = w4.heap.size ∨ (Value.slice ao ys.length co).ownBlock = some k) W (w7.setCell ⟨w4.heap.size, 0, none⟩ (.slice a' (ys.length + 1) c')) :=
        (((Foot.refl (fun k => k = w4.heap.size ∨ (Value.slice ao ys.length co).ownBlock = some k) W).alloc _).trans (HF.out.mono (T := fun k => k = w4.heap.size ∨ (Value.slice ao ys.length co).ownBlock = some k) fun _ _ h => .inr h) fun _ _ h => h).setCell (p := ⟨w4.heap.size, 0, none⟩) (fun _ => .inl rfl) _
      have hkept : Sets.Kept w5.heap.size W (w7.setCell ⟨w4.heap.size, 0, none⟩ (.slice a' (ys.length + 1) c')) := by
        refine Sets.kept_of hF7 ?_ (by have := HG.out.box.lt; omega) ?_
        · rintro (h | h)
          · have := HT.out.1; omega
          · have := HG.out.coll.has.own 0 h; have := HT.out.1; omega
        · rintro k hk (rfl | h)
          · exact ⟨_, _, by decide, HG.out.box⟩
          · obtain ⟨cs, hc⟩ := HG.out.coll.blk k h
            exact ⟨_, _, by decide, hc⟩
      have hlen2 : (ys ++ [(y : Int)]).length = ys.length + 1 := by simp
      refine ⟨hkept, by simp; omega, a', c', ?_⟩
      rw [hpp.out]
      refine ⟨by rw [hlen2]; exact HB3.out.set 0 _, ?_, hkept.1.sets _ _ HG.out.set, HG.out.most.keep hF7 ?_⟩
      · rw [hlen2]
        have h := HG.out.coll.has.snoc (n := 0) _ HI.out HF.out HMv.out
        refine ⟨⟨by have := h.items.setOther (p := ⟨w4.heap.size, 0, none⟩) (by simpa using hne2) (.slice a' (ys.length + 1) c'); exact this, h.own, h.foot.setNew _ _ (by omega) _⟩, ?_⟩
        intro g hg
        obtain ⟨g', off, cap, cur, hv, _, _, hA', _⟩ := HI.out.open (by omega)
        cases hv
        cases hg
        exact ⟨cur, hA'.setOther (by intro e; exact hne2 (by simp [Value.ownBlock]; exact e)) _⟩
      · rintro (h | h)
        · omega
        · obtain ⟨cs, hc⟩ := HG.out.coll.blk _ h
          have := (hc.eq HG.out.most).1
          cases this
  case done =>
    rintro D W hD ⟨hle, ao, co, hG⟩ hK
    have hmn : ¬ m < (Refs.nums (els x)).length := by rw [Sets.nums_len]; omega
    obtain ⟨ys, hys⟩ : ∃ ys, ys = Refs.nums (els x) := ⟨_, rfl⟩
    rw [← hys] at hG
    have HYS := Lib.hid hys; clear hys
    have k0 : W.cell? ⟨w4.heap.size, 0, none⟩ = some (.slice ao ys.length co) := hG.box.cell 0
    have k1 : W.cell? ⟨w.heap.size, 0, none⟩ = some (.int .u8 (m : Nat)) := hG.most.cell 0
    have kx0 := hG.set.c0
    have kx1 := hG.set.c1
    have FW := Lib.hid hG.coll.has.foot
    have R0 := Lib.hid hG.coll.has.items.reads
    have HK := Lib.hid hK
    clear hG hK
    go_wp2_with fail
    refine (CL.out _ (HT.out.foot FW.out id)).mono ?_
    rintro e w6 ⟨al, dl, rfl, hI6, hO6, hF6⟩
    obtain ⟨_, _, hsh, hc1, hc2⟩ := hI6.shape
    cases hsh
    unfold maxLen at hc2
    have R2 := Lib.hid (show ReadsI w6 al (Refs.nums (els x)).length ys by rw [HYS.out]; exact hI6.reads)
    have R1 := Lib.hid (R0.out.keep hF6 fun _ _ => id)
    have F6 := Lib.hid (FW.out.trans hF6 fun _ _ h => h)
    have K6 : Hid (w6.heap[D]? = some (.deferred (some []))) := Lib.hid ((hF6.block D (Array.getElem?_eq_some_iff.1 HK.out).1 id).trans HK.out)
    have k2 := Sets.hold hF6 k0
    have k3 := Sets.hold hF6 k1
    have D6 : Hid (Foot (fun _ => False) w6 w6.drew) := Lib.hid (Foot.refl _ w6).drew
    have hyl := Lib.hid R1.out.1
    clear hI6 hO6 hF6 k0 k1 kx0 kx1 HK R0 FW
    generalize hLn : (Refs.nums (els x)).length = n at *
    have hn0 : (0 : Int) ≤ (n : Int) := Int.natCast_nonneg _
    have hm0 : (0 : Int) ≤ (m : Int) := Int.natCast_nonneg _
    have hn1 : (n : Int) ≤ (dl : Int) := by omega
    have hm1 : (m : Int) ≤ (255 : Int) := by omega
    have hwm : IntKind.i64.wrap (m : Int) = (m : Int) := by rw [IntKind.wrap_i64]; omega
    have hmi : ¬ ((m : Int) < (n : Int)) := by omega
    have HL := Lib.hid hLn; clear hLn
    have hyb : ys.length ≤ 255 := by have := R2.out.1; omega
    have CS := Lib.hid fun (a b : Option Addr) (k c d : Nat) (hk : k ≤ 255) (W : World) (hr : ReadsI W a ys.length ys) (hq : ReadsI W b k ys) => Sets.Same_yes a b _ k c d ys W hr hq (by omega) (by omega)
    have hn3 : n ≤ 255 := by omega
    go_wp2_with fail
    go_region_held3 (fun w' => w'.cell? ⟨w4.heap.size, 0, none⟩ = some (.slice ao ys.length co) ∧ w'.cell? ⟨w.heap.size, 0, none⟩ = some (.int .u8 (m : Nat)) ∧ Hid (Foot (fun _ => False) w6 w'))
      (exact hold2 k2 k3 (by assumption))
      (first
        | (go_at_call 12; (with_reducible refine (CS.out _ _ _ _ _ (by assumption) _ (R1.out.keep (Hid.out (by assumption : Hid (Foot (fun _ => False) w6 _))) fun _ _ => id) (R2.out.keep (Hid.out (by assumption : Hid (Foot (fun _ => False) w6 _))) fun _ _ => id)).mono ?_); rintro e ws ⟨rfl, hFs⟩; have Es := hstep hFs (by assumption : Hid (Foot (fun _ => False) w6 _)))
        | (go_at_call 9; (with_reducible refine (CK.out _ ((HT.out.foot F6.out id).foot (Hid.out (by assumption : Hid (Foot (fun _ => False) w6 _))) id)).mono ?_); rintro e wk ⟨rfl, hFk⟩; have Ek := hstep hFk (by assumption : Hid (Foot (fun _ => False) w6 _))))
    go_wp2_with fail
    have FE := Lib.hid (F6.out.trans Ek.out fun _ _ h => h)
    have KE : wk.heap[D]? = some (.deferred (some [])) := (Ek.out.block D (Array.getElem?_eq_some_iff.1 K6.out).1 id).trans K6.out
    refine ⟨by simp, .inl ⟨_, _, rfl, run_takeDeferred KE, ?_⟩⟩
    exact ⟨_, results_tmp rfl _ _ _, rfl, (Sets.Foot.bel FE.out).trans (belowK_b (w := w) (Nat.le_refl _) wk D _ _ (by omega) KE rfl rfl)⟩
  case stop =>
    rintro D id pre y W hD hpre ⟨rfl, pre', y', hpe, hml, hle, ao, co, hG⟩ hK
    obtain ⟨rfl, rfl⟩ : pre = pre' ∧ y = y' := by simpa using hpe
    obtain ⟨hlt, htk⟩ := take_of_prefix hpre
    rw [hml] at hlt htk
    have hmn : m < (Refs.nums (els x)).length := by rw [Sets.nums_len]; exact hlt
    generalize Refs.nums pre = ys at *
    have HTK := Lib.hid htk; clear htk
    refine wpIn_wide.2 ?_
    have k0 : W.cell? ⟨w4.heap.size, 0, none⟩ = some (.slice ao ys.length co) := hG.box.cell 0
    have k1 : W.cell? ⟨w.heap.size, 0, none⟩ = some (.int .u8 (m : Nat)) := hG.most.cell 0
    have kx0 := hG.set.c0
    have kx1 := hG.set.c1
    have FW := Lib.hid hG.coll.has.foot
    have R0 := Lib.hid hG.coll.has.items.reads
    have HK := Lib.hid hK
    clear hG hK
    go_wp2_with fail
    refine (CL.out _ (HT.out.foot FW.out id)).mono ?_
    rintro e w6 ⟨al, dl, rfl, hI6, hO6, hF6⟩
    obtain ⟨_, _, hsh, hc1, hc2⟩ := hI6.shape
    cases hsh
    unfold maxLen at hc2
    have R2 := Lib.hid (show ReadsI w6 al m ys by rw [HTK.out]; exact reads_take hI6.reads (Nat.le_of_lt hmn))
    have R1 := Lib.hid (R0.out.keep hF6 fun _ _ => id)
    have F6 := Lib.hid (FW.out.trans hF6 fun _ _ h => h)
    have K6 : Hid (w6.heap[D]? = some (.deferred (some []))) := Lib.hid ((hF6.block D (Array.getElem?_eq_some_iff.1 HK.out).1 id).trans HK.out)
    have k2 := Sets.hold hF6 k0
    have k3 := Sets.hold hF6 k1
    have D6 : Hid (Foot (fun _ => False) w6 w6.drew) := Lib.hid (Foot.refl _ w6).drew
    have hyl := Lib.hid R1.out.1
    clear hI6 hO6 hF6 k0 k1 kx0 kx1 HK R0 FW
    generalize hLn : (Refs.nums (els x)).length = n at *
    have hn0 : (0 : Int) ≤ (n : Int) := Int.natCast_nonneg _
    have hm0 : (0 : Int) ≤ (m : Int) := Int.natCast_nonneg _
    have hn1 : (n : Int) ≤ (dl : Int) := by omega
    have hm1 : (m : Int) ≤ (255 : Int) := by omega
    have hwm : IntKind.i64.wrap (m : Int) = (m : Int) := by rw [IntKind.wrap_i64]; omega
    have hmi : (m : Int) < (n : Int) := by omega
    have hm2 : (m : Int) ≤ (dl : Int) := by omega
    have HL := Lib.hid hLn; clear hLn
    have hyb : ys.length ≤ 255 := by have := R2.out.1; omega
    have CS := Lib.hid fun (a b : Option Addr) (k c d : Nat) (hk : k ≤ 255) (W : World) (hr : ReadsI W a ys.length ys) (hq : ReadsI W b k ys) => Sets.Same_yes a b _ k c d ys W hr hq (by omega) (by omega)
    have hn3 : n ≤ 255 := by omega
    go_wp2_with fail
    go_region_held3 (fun w' => w'.cell? ⟨w4.heap.size, 0, none⟩ = some (.slice ao ys.length co) ∧ w'.cell? ⟨w.heap.size, 0, none⟩ = some (.int .u8 (m : Nat)) ∧ Hid (Foot (fun _ => False) w6 w'))
      (exact hold2 k2 k3 (by assumption))
      (first
        | (go_at_call 12; (with_reducible refine (CS.out _ _ _ _ _ (by assumption) _ (R1.out.keep (Hid.out (by assumption : Hid (Foot (fun _ => False) w6 _))) fun _ _ => id) (R2.out.keep (Hid.out (by assumption : Hid (Foot (fun _ => False) w6 _))) fun _ _ => id)).mono ?_); rintro e ws ⟨rfl, hFs⟩; have Es := hstep hFs (by assumption : Hid (Foot (fun _ => False) w6 _)))
        | (go_at_call 9; (with_reducible refine (CK.out _ ((HT.out.foot F6.out id).foot (Hid.out (by assumption : Hid (Foot (fun _ => False) w6 _))) id)).mono ?_); rintro e wk ⟨rfl, hFk⟩; have Ek := hstep hFk (by assumption : Hid (Foot (fun _ => False) w6 _))))
    go_wp2_with fail
    have FE := Lib.hid (F6.out.trans Ek.out fun _ _ h => h)
    have KE : wk.heap[D]? = some (.deferred (some [])) := (Ek.out.block D (Array.getElem?_eq_some_iff.1 K6.out).1 id).trans K6.out
    refine ⟨by simp, .inl ⟨_, _, rfl, run_takeDeferred KE, ?_⟩⟩
    exact ⟨_, results_tmp rfl _ _ _, rfl, (Sets.Foot.bel FE.out).trans (belowK_b (w := w) (Nat.le_refl _) wk D _ _ (by omega) KE rfl rfl)⟩

set_option maxRecDepth 100000 in
theorem lifted (os : Os) (started : os.Started) (H : Type) (enc : TypeId × Value → H) :
    ReturnsInHanded {} Tryd.checked os 7 .any (fun w args => (Rows.setGoesSpec.pre enc Tryd.prog Tryd.f7 [] false w args ∧ laidMetH Tryd.prog listed w) ∧ sizedMet enc Tryd.prog Tryd.f7 (OpenSpec.ofChange Rows.setGoesSpec) false w args) (Rows.setGoesSpec.post enc Tryd.prog Tryd.f7 false true false false) := by
  refine returnsInHanded_of_change_and (C := Tryd.checked) (X := fun w _ => laidMetH Tryd.prog listed w) (fun _ _ _ hh h => h.of_heap hh) own started (by kernel_rfl) Tryd.func7
    (ChangeSpec.witness_shaped (enc := enc) (C := Tryd.checked) (os := os) (X := fun w _ => laidMetH Tryd.prog listed w) false (World.doorLaid Tryd.prog 400 os) #[.slice none 0 0, .int .u8 0] 8 rfl (World.shaped_of_RefB (by kernel_rfl) (by kernel_rfl)) (by kernel_rfl) (by kernel_rfl) (by kernel_rfl) (door_met os _)) ?_
  intro W base args ds gs before hval0 hW _ _ hL _
  have tab := of_laid hL
  have hval : ∀ (j : Nat) t v, Tryd.f7.params[j]? = some t → args[j]? = some v → Value.okWide Tryd.prog W .any base t v := hval0
  have hW' := hW
  obtain ⟨p, q, hA0, hV, rfl, hfz, hnd⟩ := hW
  have hA : DataW.TrodAll enc Tryd.prog W 0 (fun _ => true) true Tryd.f7.params.toList args.toList ds p := hA0
  rw [Tryd.params7] at hA hval
  obtain ⟨v0, vs0, d0, ds0, p0, q0, hargs, rfl, rfl, h0, r0⟩ := trodAll_cons hA
  obtain ⟨v1, vs1, d1, ds1, p1, q1, rfl, rfl, rfl, h1, r1⟩ := trodAll_cons r0
  obtain ⟨rfl, rfl, rfl⟩ := trodAll_nil r1
  obtain rfl : args = #[v0, v1] := by cases args; simp_all
  obtain ⟨rfl, rfl⟩ := trodVars_none hV
  obtain ⟨a0, len0, cap0, rfl⟩ := okWide_slice Tryd.underlying22 (hval 0 22 v0 rfl rfl)
  have k0 := h0
  have lt0 : ∀ x ∈ p0, x.block < W.heap.size := by obtain ⟨m, hm⟩ := k0; exact DataW.trod_lt m _ _ _ hm
  obtain ⟨z0, w0⟩ := openA0 h0
  obtain ⟨a1, rfl, rfl, rfl, w1⟩ := open_int Tryd.underlying5 (hval 1 5 v1 rfl rfl) h1
  clear hA0 hval0
  refine (walk a0 len0 cap0 z0 a1 W w0 w1 tab).mono fun e W' ⟨he, bel⟩ => ?_
  subst he
  exact ⟨_, rfl, _, _, _, [], _, [], hW', trodAll_mk1 (shut_bool Tryd.underlying4 _), (trodAll_cons_mk (Below.trod laidOut (by kernel_rfl) (of_decide_eq_true (by kernel_rfl)) k0 bel lt0) (trodAll_cons_mk (shut_int Tryd.underlying5 w1) trodAll_mk0)), rfl, bel.frame _, fun h => by cases h⟩

theorem over : Rows.setGoesRow.holds Tryd.pinned (OpenSpec.ofChange Rows.setGoesSpec) :=
  OpenClaim.holds_of_wide 7 Tryd.f7 rfl rfl rfl rfl rfl rfl rfl ⟨rfl, rfl, rfl, rfl, rfl⟩ rfl rfl rfl rfl rfl (by kernel_rfl) Tryd.func7 (by kernel_rfl)
    (of_decide_eq_true (by kernel_rfl)) (by unfold Func.isWrapper; first | (rw [if_pos (by decide +kernel)]; kernel_rfl) | (rw [if_neg (by decide +kernel)]; exact ⟨rfl, rfl⟩))
    (fun os started H enc _ => lifted os started H enc)

theorem proved : Rows.SetGoesCardSaid :=
  Claim7.holds_tied_plain_at .later [] [.data] true (true, "d742ee33c5a6471d52597bf90b3a655e2c546c586dd35d545d176a5b4816720c") false
    over (fun _ h => by cases h) (by kernel_rfl) (fun _ h => by cases h) setGoes_row_tie rfl ⟨rfl, rfl⟩ (by kernel_rfl) rfl
    (fun f fn hf hfn => by
      obtain rfl : f = 7 := Option.some.inj ((show Tryd.prog.funcNamed Tryd.f7.name = some 7 by kernel_rfl).symm.trans hf) |>.symm
      obtain rfl : fn = Tryd.f7 := (Option.some.inj (Tryd.func7.symm.trans hfn)).symm
      exact ⟨by kernel_rfl, fun j t ht => by
        rw [Tryd.params7] at ht
        have hm : t ∈ [22, 5] := by simpa using Array.mem_of_getElem? ht
        have hall : ([22, 5].all fun u => !Tryd.prog.wantsStandIn u) = true := by kernel_rfl
        exact (show Tryd.prog.wantsStandIn t = false by simpa using List.all_eq_true.1 hall t hm)⟩)
    (by kernel_rfl)
#print axioms proved
end Go.Proofs.YtkoedgmfjpcocaaDoor.setGoes
