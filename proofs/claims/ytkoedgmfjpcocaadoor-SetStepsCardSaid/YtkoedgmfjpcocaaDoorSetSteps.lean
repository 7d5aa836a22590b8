/- When numbers are put into a set and taken out one by one, the set lists what is left, and equals the set of that list. No condition; the table of math/bits is laid as its initialiser lays it (tied). -/
import Derived.Test.YtkoedgmfjpcocaaDoorRows
import Derived.WalkKit
import Derived.ProofKit
import Derived.OpenShut
import Derived.ShutString
import Derived.ChangeOld
import Derived.Below
import Derived.Test.YtkoedgmfjpcocaaDoorSteps3
import Derived.Test.YtkoedgmfjpcocaaDoorOpen
import Derived.Deep.RegionHeld3
import Derived.Deep.DeepCutAuto
import Derived.Deep.CutBlock
import Derived.Deep.LoopGhost
import Derived.Test.YtkoedgmfjpcocaaDoorCards
import Derived.Test.YtkoedgmfjpcocaaDoorTie
import Derived.Test.YtkoedgmfjpcocaaDoorTab
import Derived.SevenTiedAt
import Derived.LaidMore
import Derived.Stop.Joined
namespace Go.Proofs.YtkoedgmfjpcocaaDoor.setSteps
open Go.ChangeShapes Go.WideShapes Go.ChangeAt Go.RowKit
open Go.ChangeMaps (open_string shut_string)
set_option linter.unusedVariables false
set_option linter.unusedSimpArgs false

open Go.Proofs.YtkoedgmfjpcocaaDoor.Sets (listed door_met of_laid)
theorem own : ownKnob Tryd.prog.godebug = none := by kernel_rfl
theorem laidOut : laidOutB Tryd.prog = true := by kernel_rfl
open Mem Words
open Sets (Tab BoolsIn)

theorem openA0 {H : Type} {enc : TypeId × Value → H} {w : World} {a : Option Addr} {len cap : Nat} {d : DataW H} {p : List MemPlace} (h : DataW.Trod enc Tryd.prog w 0 (fun _ => true) true 22 (.slice a len cap) d p) : ∃ zs, IntsIn w a len cap zs :=
  open_ints_in Tryd.underlying22 Tryd.underlying3 (by kernel_rfl) h
theorem openA1 {H : Type} {enc : TypeId × Value → H} {w : World} {a : Option Addr} {len cap : Nat} {d : DataW H} {p : List MemPlace} (h : DataW.Trod enc Tryd.prog w 0 (fun _ => true) true 40 (.slice a len cap) d p) : ∃ _z : Unit, BoolsIn w a len cap := by
  have hc : Tryd.prog.cellsOf 4 = 1 := by kernel_rfl
  obtain ⟨h1, h2, h3⟩ := open_elems Tryd.underlying40 (by rw [hc]; omega) h
  refine ⟨(), h1, h2, fun hn => ?_⟩
  obtain ⟨b, off, ha, hi⟩ := h3 (by omega)
  refine ⟨b, off, ha, fun j hj => ?_⟩
  obtain ⟨cs, n, y, hl, hat, htr⟩ := hi j (by omega)
  obtain ⟨x, hx, _⟩ := DataW.trod_bool Tryd.underlying4 htr
  rw [hc] at hat
  have := hat 0 (by omega)
  rw [hx] at this
  exact ⟨x, by simpa using this⟩

set_option maxHeartbeats 4000000 in
set_option maxRecDepth 100000 in
theorem walk (a0 : Option Addr) (len0 cap0 : Nat) (z0 : List Int) (a1 : Option Addr) (len1 cap1 : Nat) (z1 : Unit) (w : World) (w0 : IntsIn w a0 len0 cap0 z0) (w1 : BoolsIn w a1 len1 cap1) (hT : Tab w) :
    Calls Tryd.prog 4 #[.slice a0 len0 cap0, .slice a1 len1 cap1] w fun e w' => e = .returned (.bool true) ∧ Below w.heap.size w w' := by
  have hz0 := Nat.le_trans w0.le w0.max
  have hz1 := Nat.le_trans w1.le w1.max
  unfold maxLen at hz0 hz1
  have hl0 := w0.reads.1
  have W0 := Lib.hid w0; have W1 := Lib.hid w1
  have HT := Lib.hid hT
  clear w0 w1 hT
  have CK := Lib.hid fun w hT => Sets.known w hT
  have CF0 := Lib.hid fun w => Sets.few a0 len0 cap0 w hz0
  by_cases hl : len0 ≤ 300
  case neg =>
    have CF := Lib.hid fun w => (by have h := CF0.out w; rwa [decide_eq_false hl] at h : Calls Tryd.prog 8 #[.slice a0 len0 cap0] w fun e w' => e = .returned (.bool false) ∧ w = w')
    clear CF0 hl
    go_enter Tryd.func4, Tryd.ntmps4
    go_wp2_with fail
    refine (CF.out _).mono ?_
    rintro e w3 ⟨rfl, rfl⟩
    go_wp2_with fail
    refine (CK.out _ HT.out).mono ?_
    rintro e w4 ⟨rfl, hF⟩
    have HF := Lib.hid hF; clear hF
    go_wp2_with fail
    go_ret
    exact ⟨rfl, Sets.Foot.bel HF.out⟩
  have D0 := Lib.hid fun w => (by have h := CF0.out w; rwa [decide_eq_true hl] at h : Calls Tryd.prog 8 #[.slice a0 len0 cap0] w fun e w' => e = .returned (.bool true) ∧ w = w')
  clear CF0
  go_enter Tryd.func4, Tryd.ntmps4
  go_wp2_with fail
  refine (D0.out _).mono ?_
  rintro e w3 ⟨rfl, rfl⟩
  go_wp2_with fail
  go_loopg [6, 7] len0 (fun k m i wr => ∃ (j : Nat) (p : Nat → Bool) (am : Option Addr) (cm : Nat), k + j = len0 ∧ i = .int .i64 j ∧ m = .slice am (Refs.nums (els p)).length cm ∧ Sets.Loop3 w wr w.heap.size p am)
  case atStart =>
    refine ⟨0, noneP, none, 0, rfl, rfl, by rw [els_none]; rfl, (Foot.refl _ w).alloc _, ?_, ?_, (fun x h => by cases h), Nat.le_refl _, HT.out.alloc _⟩
    · unfold Sets.Box; rw [lo_none, hi_none]; exact At.new _ _ _
    · rw [els_none]; exact ⟨rfl, fun h => absurd h (by decide)⟩
  case round =>
    obtain ⟨j, p, am, cm, hgk, rfl, rfl, hL⟩ := hrel
    have HGK := Lib.hid hgk; have L := Lib.hid hL
    clear hgk hL
    have hnp : (Refs.nums (els p)).length ≤ 128 := by rw [Sets.nums_len]; exact els_le p
    by_cases hlt : j < len0
    · obtain ⟨b, off, rfl, hc⟩ := W0.out.reads.2 (by omega)
      have hcw := hc j hlt
      have hbs : b ≠ w.heap.size := Nat.ne_of_lt (World.block_lt_of_cell? _ _ hcw)
      have hcell := Sets.hold L.out.foot hcw
      have hz := W0.out.fits (z0.getD j 0) (by rw [Refs.getD_of (by omega)]; exact List.getElem_mem _)
      have hj0 : (0 : Int) ≤ (j : Int) := Int.natCast_nonneg _
      have hj1 : (j : Int) < (len0 : Int) := by omega
      generalize z0.getD j 0 = z at *
      have HM := Lib.hid L.out.m
      clear hc hcw
      by_cases h1 : j < len1
      · obtain ⟨b1, off1, rfl, hd⟩ := W1.out.reads (by omega)
        obtain ⟨bv, hdw⟩ := hd j h1
        have hbool := Sets.hold L.out.foot hdw
        clear hd hdw
        go_upto_if 27 with fail
        go_cut [6] (fun m wx => ∃ (p2 : Nat → Bool) (a2 : Option Addr) (c2 : Nat), m = .slice a2 (Refs.nums (els p2)).length c2 ∧ Sets.Loop3 w wx w.heap.size p2 a2)
        case first =>
          cases bv
          · obtain ⟨p2, hp2⟩ : ∃ p2, p2 = ofP (Refs.nums (els p) ++ [z]) := ⟨_, rfl⟩
            have CA := Lib.hid fun W => (by have h := Sets.With p z W hz; rw [lo_congr (Sets.of_snoc p z), hi_congr (Sets.of_snoc p z), ← hp2] at h; exact h :
              Calls Tryd.prog 25 #[.agg #[.int .u64 (lo p : Nat), .int .u64 (hi p : Nat)], .int .i64 z] W fun e w' => e = .returned (.agg #[.int .u64 (lo p2 : Nat), .int .u64 (hi p2 : Nat)]) ∧ Foot (fun _ => False) W w')
            have CB := Lib.hid fun (g : Nat) (W : World) (hm : ReadsI W am (Refs.nums (els p)).length (Refs.nums (els p))) (hg : At W g 3 #[.int .i64 z]) => (by have h := Refs.Or am (some ⟨g, 0, none⟩) _ 1 cm 1 _ [z] W hm (At.reads (zs := [z]) hg) (by omega) (by omega); rw [← hp2] at h; exact h :
              Calls Tryd.prog 18 #[.slice am (Refs.nums (els p)).length cm, .slice (some ⟨g, 0, none⟩) 1 1] W (Refs.Gives W (Refs.nums (els p2))))
            clear hp2
            have c0 := L.out.s.c0
            have c1 := L.out.s.c1
            go_wp2_with fail
            refine wp_region_noPanic ?_
            refine wp_region_held_drew (S := (fun w' => w'.cell? ⟨b, off + j, none⟩ = some (.int .i64 z) ∧ Hid (Foot (fun x => x = w.heap.size) wr w'))) (by kernel_rfl) (Sets.hold_in hbs hcell ((Foot.refl (fun x => x = w.heap.size) wr).drew)) (fun hHeld => ?_)
            refine wpAnyH_take (i := 1) (oi := _) (v := ?vn1) rfl (by kernel_rfl) (by kernel_rfl) (by kernel_rfl) (fun _ _ _ h => h) (Or.inl ⟨by rfl, ?hn1⟩) (by assumption) ?rn1
            case hn1 => (intro w hSw; (try dsimp only at hSw); go_simp; (try with_reducible rfl))
            try simp only [Act.put, List.getElem_toArray, List.getElem_cons_zero, List.getElem_cons_succ, List.setIfInBounds_toArray, List.set_cons_zero, List.set_cons_succ]
            refine wpAnyH_take (i := 2) (oi := _) (v := ?vn2) rfl (by kernel_rfl) (by kernel_rfl) (by kernel_rfl) (fun _ _ _ h => h) (Or.inl ⟨by rfl, ?hn2⟩) (by assumption) ?rn2
            case hn2 => (intro w hSw; (try dsimp only at hSw); go_simp; (try with_reducible rfl))
            try simp only [Act.put, List.getElem_toArray, List.getElem_cons_zero, List.getElem_cons_succ, List.setIfInBounds_toArray, List.set_cons_zero, List.set_cons_succ]
            refine wpAnyH_take (i := 3) (oi := _) (v := ?vn3) rfl (by kernel_rfl) (by kernel_rfl) (by kernel_rfl) (fun _ _ _ h => h) (Or.inl ⟨by rfl, ?hn3⟩) (by assumption) ?rn3
            case hn3 => (intro w hSw; (try dsimp only at hSw); go_simp; (try with_reducible rfl))
            try simp only [Act.put, List.getElem_toArray, List.getElem_cons_zero, List.getElem_cons_succ, List.setIfInBounds_toArray, List.set_cons_zero, List.set_cons_succ]
            refine wpAnyH_take (i := 4) (oi := _) (v := ?vn4) rfl (by kernel_rfl) (by kernel_rfl) (by kernel_rfl) (fun _ _ _ h => h) (Or.inl ⟨by rfl, ?hn4⟩) (by assumption) ?rn4
            case hn4 => (intro w hSw; (try dsimp only at hSw); go_simp; (try with_reducible rfl))
            try simp only [Act.put, List.getElem_toArray, List.getElem_cons_zero, List.getElem_cons_succ, List.setIfInBounds_toArray, List.set_cons_zero, List.set_cons_succ]
            refine wpAnyH_take (i := 6) (oi := _) (v := ?vn5) rfl (by kernel_rfl) (by kernel_rfl) (by kernel_rfl) (fun _ _ _ h => h) (Or.inl ⟨by rfl, ?hn5⟩) (by assumption) ?rn5
            case hn5 => (intro w hSw; (try dsimp only at hSw); go_simp; (try with_reducible rfl))
            try simp only [Act.put, List.getElem_toArray, List.getElem_cons_zero, List.getElem_cons_succ, List.setIfInBounds_toArray, List.set_cons_zero, List.set_cons_succ]
            refine wpAnyH_take (i := 7) (oi := _) (v := ?vn6) rfl (by kernel_rfl) (by kernel_rfl) (by kernel_rfl) (fun _ _ _ h => h) (Or.inl ⟨by rfl, ?hn6⟩) (by assumption) ?rn6
            case hn6 => (intro w hSw; (try dsimp only at hSw); go_simp; (try with_reducible rfl))
            try simp only [Act.put, List.getElem_toArray, List.getElem_cons_zero, List.getElem_cons_succ, List.setIfInBounds_toArray, List.set_cons_zero, List.set_cons_succ]
            refine wpAnyH_take (i := 8) (oi := _) (v := ?vn7) rfl (by kernel_rfl) (by kernel_rfl) (by kernel_rfl) (fun _ _ _ h => h) (Or.inl ⟨by rfl, ?hn7⟩) (by assumption) ?rn7
            case hn7 => (intro w hSw; (try dsimp only at hSw); go_simp; (try with_reducible rfl))
            try simp only [Act.put, List.getElem_toArray, List.getElem_cons_zero, List.getElem_cons_succ, List.setIfInBounds_toArray, List.set_cons_zero, List.set_cons_succ]
            refine wpAnyH_take (i := 9) (oi := _) (v := ?vn8) rfl (by kernel_rfl) (by kernel_rfl) (by kernel_rfl) (fun _ _ _ h => h) (Or.inl ⟨by rfl, ?hn8⟩) (by assumption) ?rn8
            case hn8 => (intro w hSw; (try dsimp only at hSw); go_simp; (try with_reducible rfl))
            try simp only [Act.put, List.getElem_toArray, List.getElem_cons_zero, List.getElem_cons_succ, List.setIfInBounds_toArray, List.set_cons_zero, List.set_cons_succ]
            refine wpAnyH_take (i := 10) (oi := _) (v := ?vn9) rfl (by kernel_rfl) (by kernel_rfl) (by kernel_rfl) (fun _ _ _ h => h) (Or.inl ⟨by rfl, ?hn9⟩) (by assumption) ?rn9
            case hn9 => (intro w hSw; (try dsimp only at hSw); go_simp; (try with_reducible rfl))
            try simp only [Act.put, List.getElem_toArray, List.getElem_cons_zero, List.getElem_cons_succ, List.setIfInBounds_toArray, List.set_cons_zero, List.set_cons_succ]
            refine wpAnyH_ready (rs := [0, 11]) (by kernel_rfl) (by simp) ?_
            refine AllReadyH.cons (o := _) rfl (fun K hK => ?_) (AllReadyH.cons (o := _) rfl (fun K hK => ?_) AllReadyH.nil)
            · go_simp
              refine hK.out _ _ (Sets.hold_in hbs hcell (Sets.Foot.wide ((Foot.refl (fun _ => False) wr).drew))) (fun hHeld => ?_)
              clear hK K
              try simp only [Act.put, List.getElem_toArray, List.getElem_cons_zero, List.getElem_cons_succ, List.setIfInBounds_toArray, List.set_cons_zero, List.set_cons_succ]
              refine wpAnyH_ready (rs := [5, 11]) (by kernel_rfl) (by simp) ?_
              refine AllReadyH.cons (o := _) rfl (fun K hK => ?_) (AllReadyH.cons (o := _) rfl (fun K hK => ?_) AllReadyH.nil)
              · go_simp
                (with_reducible refine (CA.out _).mono ?_); rintro e w5 ⟨rfl, hF⟩
                have G5 := Lib.hid ((((Foot.refl (fun _ => False) wr).drew)).trans hF fun _ _ h => h); have N5 := Lib.hid hF; clear hF
                refine hK.out _ _ (Sets.hold_in hbs hcell (Sets.Foot.wide G5.out)) (fun hHeld => ?_)
                clear hK K
                try simp only [Act.put, List.getElem_toArray, List.getElem_cons_zero, List.getElem_cons_succ, List.setIfInBounds_toArray, List.set_cons_zero, List.set_cons_succ]
                refine wpAnyH_ready (rs := [11]) (by kernel_rfl) (by simp) ?_
                refine AllReadyH.cons (o := _) rfl (fun K hK => ?_) AllReadyH.nil
                go_simp
                obtain ⟨w11, hw⟩ : ∃ w', w5.alloc (.cells #[.int .i64 z] 3) = w' := ⟨_, rfl⟩
                rw [hw]
                have G11 : Hid (Foot (fun _ => False) wr w11) := Lib.hid (by rw [← hw]; exact (G5.out).alloc _)
                have B11 : Hid (At w11 w5.heap.size 3 #[.int .i64 z]) := Lib.hid (by rw [← hw]; exact At.new _ _ _)
                clear hw
                refine hK.out _ _ (Sets.hold_in hbs hcell (Sets.Foot.wide G11.out)) (fun hHeld => ?_)
                clear hK K
                try simp only [Act.put, List.getElem_toArray, List.getElem_cons_zero, List.getElem_cons_succ, List.setIfInBounds_toArray, List.set_cons_zero, List.set_cons_succ]
                refine wpAnyH_ready (rs := [12]) (by kernel_rfl) (by simp) ?_
                refine AllReadyH.cons (o := _) rfl (fun K hK => ?_) AllReadyH.nil
                go_simp
                (with_reducible refine (CB.out _ _ (HM.out.keep (G11.out) fun _ _ => id) (B11.out)).mono ?_); rintro e w12 ⟨a12, d12, rfl, hI12, hO12, hF12⟩
                have G12 := Lib.hid ((G11.out).trans hF12 fun _ _ h => h); have R12 := Lib.hid hI12.reads
                have O12 : Hid (∀ x, a12 = some x → x.block ≠ w.heap.size) := Lib.hid fun x hx e => by subst hx; have h1 := hO12 x.block rfl; have h2 := (G11.out).size; have h3 := L.out.s.lt; omega
                clear hI12 hO12 hF12
                have A12 := L.out.s.foot G12.out
                have k0 := A12.c0
                have k1 := A12.c1
                have k2 := At.free A12 0
                have k3 := At.free A12 1
                clear A12
                refine hK.out _ _ (Sets.hold_in hbs hcell (Sets.Foot.wide G12.out)) (fun hHeld => ?_)
                clear hK K
                try simp only [Act.put, List.getElem_toArray, List.getElem_cons_zero, List.getElem_cons_succ, List.setIfInBounds_toArray, List.set_cons_zero, List.set_cons_succ]
                refine wpAnyH_ready (rs := [13]) (by kernel_rfl) (by simp) ?_
                refine AllReadyH.cons (o := _) rfl (fun K hK => ?_) AllReadyH.nil
                go_simp
                refine hK.out _ _ (Sets.hold_in hbs hcell (((Sets.Foot.wide (S := fun x => x = w.heap.size) G12.out).setCell (p := ⟨w.heap.size, 0, none⟩) (fun _ => rfl) _).setCell (p := ⟨w.heap.size, 1, none⟩) (fun _ => rfl) _)) (fun hHeld => ?_)
                clear hK K
                try simp only [Act.put, List.getElem_toArray, List.getElem_cons_zero, List.getElem_cons_succ, List.setIfInBounds_toArray, List.set_cons_zero, List.set_cons_succ]
                refine wpAnyH_take (i := 14) (oi := _) (v := ?vn10) rfl (by kernel_rfl) (by kernel_rfl) (by kernel_rfl) (fun _ _ _ h => h) (Or.inl ⟨by rfl, ?hn10⟩) (by assumption) ?rn10
                case hn10 => (intro w hSw; (try dsimp only at hSw); go_simp; (try with_reducible rfl))
                try simp only [Act.put, List.getElem_toArray, List.getElem_cons_zero, List.getElem_cons_succ, List.setIfInBounds_toArray, List.set_cons_zero, List.set_cons_succ]
                refine wpAnyH_done (by kernel_rfl) ?_ _
                refine NoPanic.normal ?_
                go_wp2_with fail
                go_meet
                case rel => exact ⟨p2, a12, d12, rfl, L.out.stored G12.out R12.out O12.out⟩
              · go_simp
                obtain ⟨w11, hw⟩ : ∃ w', (wr.alloc (.cells #[.int .i64 z] 3)).drew = w' := ⟨_, rfl⟩
                rw [hw]
                have G11 : Hid (Foot (fun _ => False) wr w11) := Lib.hid (by rw [← hw]; exact ((Foot.refl _ wr).alloc _).drew)
                have B11 : Hid (At w11 wr.heap.size 3 #[.int .i64 z]) := Lib.hid (by rw [← hw]; exact At.new wr _ _)
                clear hw
                refine hK.out _ _ (Sets.hold_in hbs hcell (Sets.Foot.wide G11.out)) (fun hHeld => ?_)
                clear hK K
                try simp only [Act.put, List.getElem_toArray, List.getElem_cons_zero, List.getElem_cons_succ, List.setIfInBounds_toArray, List.set_cons_zero, List.set_cons_succ]
                refine wpAnyH_ready (rs := [5]) (by kernel_rfl) (by simp) ?_
                refine AllReadyH.cons (o := _) rfl (fun K hK => ?_) AllReadyH.nil
                go_simp
                (with_reducible refine (CA.out _).mono ?_); rintro e w5 ⟨rfl, hF⟩
                have G5 := Lib.hid ((G11.out).trans hF fun _ _ h => h); have N5 := Lib.hid hF; clear hF
                refine hK.out _ _ (Sets.hold_in hbs hcell (Sets.Foot.wide G5.out)) (fun hHeld => ?_)
                clear hK K
                try simp only [Act.put, List.getElem_toArray, List.getElem_cons_zero, List.getElem_cons_succ, List.setIfInBounds_toArray, List.set_cons_zero, List.set_cons_succ]
                refine wpAnyH_ready (rs := [12]) (by kernel_rfl) (by simp) ?_
                refine AllReadyH.cons (o := _) rfl (fun K hK => ?_) AllReadyH.nil
                go_simp
                (with_reducible refine (CB.out _ _ (HM.out.keep (G5.out) fun _ _ => id) (B11.out.keep N5.out id)).mono ?_); rintro e w12 ⟨a12, d12, rfl, hI12, hO12, hF12⟩
                have G12 := Lib.hid ((G5.out).trans hF12 fun _ _ h => h); have R12 := Lib.hid hI12.reads
                have O12 : Hid (∀ x, a12 = some x → x.block ≠ w.heap.size) := Lib.hid fun x hx e => by subst hx; have h1 := hO12 x.block rfl; have h2 := (G5.out).size; have h3 := L.out.s.lt; omega
                clear hI12 hO12 hF12
                have A12 := L.out.s.foot G12.out
                have k0 := A12.c0
                have k1 := A12.c1
                have k2 := At.free A12 0
                have k3 := At.free A12 1
                clear A12
                refine hK.out _ _ (Sets.hold_in hbs hcell (Sets.Foot.wide G12.out)) (fun hHeld => ?_)
                clear hK K
                try simp only [Act.put, List.getElem_toArray, List.getElem_cons_zero, List.getElem_cons_succ, List.setIfInBounds_toArray, List.set_cons_zero, List.set_cons_succ]
                refine wpAnyH_ready (rs := [13]) (by kernel_rfl) (by simp) ?_
                refine AllReadyH.cons (o := _) rfl (fun K hK => ?_) AllReadyH.nil
                go_simp
                refine hK.out _ _ (Sets.hold_in hbs hcell (((Sets.Foot.wide (S := fun x => x = w.heap.size) G12.out).setCell (p := ⟨w.heap.size, 0, none⟩) (fun _ => rfl) _).setCell (p := ⟨w.heap.size, 1, none⟩) (fun _ => rfl) _)) (fun hHeld => ?_)
                clear hK K
                try simp only [Act.put, List.getElem_toArray, List.getElem_cons_zero, List.getElem_cons_succ, List.setIfInBounds_toArray, List.set_cons_zero, List.set_cons_succ]
                refine wpAnyH_take (i := 14) (oi := _) (v := ?vn11) rfl (by kernel_rfl) (by kernel_rfl) (by kernel_rfl) (fun _ _ _ h => h) (Or.inl ⟨by rfl, ?hn11⟩) (by assumption) ?rn11
                case hn11 => (intro w hSw; (try dsimp only at hSw); go_simp; (try with_reducible rfl))
                try simp only [Act.put, List.getElem_toArray, List.getElem_cons_zero, List.getElem_cons_succ, List.setIfInBounds_toArray, List.set_cons_zero, List.set_cons_succ]
                refine wpAnyH_done (by kernel_rfl) ?_ _
                refine NoPanic.normal ?_
                go_wp2_with fail
                go_meet
                case rel => exact ⟨p2, a12, d12, rfl, L.out.stored G12.out R12.out O12.out⟩
            · go_simp
              obtain ⟨w11, hw⟩ : ∃ w', (wr.alloc (.cells #[.int .i64 z] 3)).drew = w' := ⟨_, rfl⟩
              rw [hw]
              have G11 : Hid (Foot (fun _ => False) wr w11) := Lib.hid (by rw [← hw]; exact ((Foot.refl _ wr).alloc _).drew)
              have B11 : Hid (At w11 wr.heap.size 3 #[.int .i64 z]) := Lib.hid (by rw [← hw]; exact At.new wr _ _)
              clear hw
              refine hK.out _ _ (Sets.hold_in hbs hcell (Sets.Foot.wide G11.out)) (fun hHeld => ?_)
              clear hK K
              try simp only [Act.put, List.getElem_toArray, List.getElem_cons_zero, List.getElem_cons_succ, List.setIfInBounds_toArray, List.set_cons_zero, List.set_cons_succ]
              have c0 := Sets.hold G11.out c0; have c1 := Sets.hold G11.out c1
              refine wpAnyH_ready (rs := [0]) (by kernel_rfl) (by simp) ?_
              refine AllReadyH.cons (o := _) rfl (fun K hK => ?_) AllReadyH.nil
              go_simp
              refine hK.out _ _ (Sets.hold_in hbs hcell (Sets.Foot.wide G11.out)) (fun hHeld => ?_)
              clear hK K
              try simp only [Act.put, List.getElem_toArray, List.getElem_cons_zero, List.getElem_cons_succ, List.setIfInBounds_toArray, List.set_cons_zero, List.set_cons_succ]
              refine wpAnyH_ready (rs := [5]) (by kernel_rfl) (by simp) ?_
              refine AllReadyH.cons (o := _) rfl (fun K hK => ?_) AllReadyH.nil
              go_simp
              (with_reducible refine (CA.out _).mono ?_); rintro e w5 ⟨rfl, hF⟩
              have G5 := Lib.hid ((G11.out).trans hF fun _ _ h => h); have N5 := Lib.hid hF; clear hF
              refine hK.out _ _ (Sets.hold_in hbs hcell (Sets.Foot.wide G5.out)) (fun hHeld => ?_)
              clear hK K
              try simp only [Act.put, List.getElem_toArray, List.getElem_cons_zero, List.getElem_cons_succ, List.setIfInBounds_toArray, List.set_cons_zero, List.set_cons_succ]
              refine wpAnyH_ready (rs := [12]) (by kernel_rfl) (by simp) ?_
              refine AllReadyH.cons (o := _) rfl (fun K hK => ?_) AllReadyH.nil
              go_simp
              (with_reducible refine (CB.out _ _ (HM.out.keep (G5.out) fun _ _ => id) (B11.out.keep N5.out id)).mono ?_); rintro e w12 ⟨a12, d12, rfl, hI12, hO12, hF12⟩
              have G12 := Lib.hid ((G5.out).trans hF12 fun _ _ h => h); have R12 := Lib.hid hI12.reads
              have O12 : Hid (∀ x, a12 = some x → x.block ≠ w.heap.size) := Lib.hid fun x hx e => by subst hx; have h1 := hO12 x.block rfl; have h2 := (G5.out).size; have h3 := L.out.s.lt; omega
              clear hI12 hO12 hF12
              have A12 := L.out.s.foot G12.out
              have k0 := A12.c0
              have k1 := A12.c1
              have k2 := At.free A12 0
              have k3 := At.free A12 1
              clear A12
              refine hK.out _ _ (Sets.hold_in hbs hcell (Sets.Foot.wide G12.out)) (fun hHeld => ?_)
              clear hK K
              try simp only [Act.put, List.getElem_toArray, List.getElem_cons_zero, List.getElem_cons_succ, List.setIfInBounds_toArray, List.set_cons_zero, List.set_cons_succ]
              refine wpAnyH_ready (rs := [13]) (by kernel_rfl) (by simp) ?_
              refine AllReadyH.cons (o := _) rfl (fun K hK => ?_) AllReadyH.nil
              go_simp
              refine hK.out _ _ (Sets.hold_in hbs hcell (((Sets.Foot.wide (S := fun x => x = w.heap.size) G12.out).setCell (p := ⟨w.heap.size, 0, none⟩) (fun _ => rfl) _).setCell (p := ⟨w.heap.size, 1, none⟩) (fun _ => rfl) _)) (fun hHeld => ?_)
              clear hK K
              try simp only [Act.put, List.getElem_toArray, List.getElem_cons_zero, List.getElem_cons_succ, List.setIfInBounds_toArray, List.set_cons_zero, List.set_cons_succ]
              refine wpAnyH_take (i := 14) (oi := _) (v := ?vn12) rfl (by kernel_rfl) (by kernel_rfl) (by kernel_rfl) (fun _ _ _ h => h) (Or.inl ⟨by rfl, ?hn12⟩) (by assumption) ?rn12
              case hn12 => (intro w hSw; (try dsimp only at hSw); go_simp; (try with_reducible rfl))
              try simp only [Act.put, List.getElem_toArray, List.getElem_cons_zero, List.getElem_cons_succ, List.setIfInBounds_toArray, List.set_cons_zero, List.set_cons_succ]
              refine wpAnyH_done (by kernel_rfl) ?_ _
              refine NoPanic.normal ?_
              go_wp2_with fail
              go_meet
              case rel => exact ⟨p2, a12, d12, rfl, L.out.stored G12.out R12.out O12.out⟩
          · obtain ⟨p2, hp2⟩ : ∃ p2, p2 = delP p z := ⟨_, rfl⟩
            have CA := Lib.hid fun W => (by have h := Sets.Without p z W hz; rw [← hp2] at h; exact h :
              Calls Tryd.prog 24 #[.agg #[.int .u64 (lo p : Nat), .int .u64 (hi p : Nat)], .int .i64 z] W fun e w' => e = .returned (.agg #[.int .u64 (lo p2 : Nat), .int .u64 (hi p2 : Nat)]) ∧ Foot (fun _ => False) W w')
            have CB := Lib.hid fun (g : Nat) (W : World) (hm : ReadsI W am (Refs.nums (els p)).length (Refs.nums (els p))) (hg : At W g 3 #[.int .i64 z]) => (by have h := Refs.Not am (some ⟨g, 0, none⟩) _ 1 cm 1 _ [z] W hm (At.reads (zs := [z]) hg) (by omega) (by omega); rw [Sets.without_one, ← hp2] at h; exact h :
              Calls Tryd.prog 22 #[.slice am (Refs.nums (els p)).length cm, .slice (some ⟨g, 0, none⟩) 1 1] W (Refs.Gives W (Refs.nums (els p2))))
            clear hp2
            have c0 := L.out.s.c0
            have c1 := L.out.s.c1
            go_wp2_with fail
            refine wp_region_noPanic ?_
            refine wp_region_held_drew (S := (fun w' => w'.cell? ⟨b, off + j, none⟩ = some (.int .i64 z) ∧ Hid (Foot (fun x => x = w.heap.size) wr w'))) (by kernel_rfl) (Sets.hold_in hbs hcell ((Foot.refl (fun x => x = w.heap.size) wr).drew)) (fun hHeld => ?_)
            refine wpAnyH_take (i := 1) (oi := _) (v := ?vn13) rfl (by kernel_rfl) (by kernel_rfl) (by kernel_rfl) (fun _ _ _ h => h) (Or.inl ⟨by rfl, ?hn13⟩) (by assumption) ?rn13
            case hn13 => (intro w hSw; (try dsimp only at hSw); go_simp; (try with_reducible rfl))
            try simp only [Act.put, List.getElem_toArray, List.getElem_cons_zero, List.getElem_cons_succ, List.setIfInBounds_toArray, List.set_cons_zero, List.set_cons_succ]
            refine wpAnyH_take (i := 2) (oi := _) (v := ?vn14) rfl (by kernel_rfl) (by kernel_rfl) (by kernel_rfl) (fun _ _ _ h => h) (Or.inl ⟨by rfl, ?hn14⟩) (by assumption) ?rn14
            case hn14 => (intro w hSw; (try dsimp only at hSw); go_simp; (try with_reducible rfl))
            try simp only [Act.put, List.getElem_toArray, List.getElem_cons_zero, List.getElem_cons_succ, List.setIfInBounds_toArray, List.set_cons_zero, List.set_cons_succ]
            refine wpAnyH_take (i := 3) (oi := _) (v := ?vn15) rfl (by kernel_rfl) (by kernel_rfl) (by kernel_rfl) (fun _ _ _ h => h) (Or.inl ⟨by rfl, ?hn15⟩) (by assumption) ?rn15
            case hn15 => (intro w hSw; (try dsimp only at hSw); go_simp; (try with_reducible rfl))
            try simp only [Act.put, List.getElem_toArray, List.getElem_cons_zero, List.getElem_cons_succ, List.setIfInBounds_toArray, List.set_cons_zero, List.set_cons_succ]
            refine wpAnyH_take (i := 4) (oi := _) (v := ?vn16) rfl (by kernel_rfl) (by kernel_rfl) (by kernel_rfl) (fun _ _ _ h => h) (Or.inl ⟨by rfl, ?hn16⟩) (by assumption) ?rn16
            case hn16 => (intro w hSw; (try dsimp only at hSw); go_simp; (try with_reducible rfl))
            try simp only [Act.put, List.getElem_toArray, List.getElem_cons_zero, List.getElem_cons_succ, List.setIfInBounds_toArray, List.set_cons_zero, List.set_cons_succ]
            refine wpAnyH_take (i := 6) (oi := _) (v := ?vn17) rfl (by kernel_rfl) (by kernel_rfl) (by kernel_rfl) (fun _ _ _ h => h) (Or.inl ⟨by rfl, ?hn17⟩) (by assumption) ?rn17
            case hn17 => (intro w hSw; (try dsimp only at hSw); go_simp; (try with_reducible rfl))
            try simp only [Act.put, List.getElem_toArray, List.getElem_cons_zero, List.getElem_cons_succ, List.setIfInBounds_toArray, List.set_cons_zero, List.set_cons_succ]
            refine wpAnyH_take (i := 7) (oi := _) (v := ?vn18) rfl (by kernel_rfl) (by kernel_rfl) (by kernel_rfl) (fun _ _ _ h => h) (Or.inl ⟨by rfl, ?hn18⟩) (by assumption) ?rn18
            case hn18 => (intro w hSw; (try dsimp only at hSw); go_simp; (try with_reducible rfl))
            try simp only [Act.put, List.getElem_toArray, List.getElem_cons_zero, List.getElem_cons_succ, List.setIfInBounds_toArray, List.set_cons_zero, List.set_cons_succ]
            refine wpAnyH_take (i := 8) (oi := _) (v := ?vn19) rfl (by kernel_rfl) (by kernel_rfl) (by kernel_rfl) (fun _ _ _ h => h) (Or.inl ⟨by rfl, ?hn19⟩) (by assumption) ?rn19
            case hn19 => (intro w hSw; (try dsimp only at hSw); go_simp; (try with_reducible rfl))
            try simp only [Act.put, List.getElem_toArray, List.getElem_cons_zero, List.getElem_cons_succ, List.setIfInBounds_toArray, List.set_cons_zero, List.set_cons_succ]
            refine wpAnyH_take (i := 9) (oi := _) (v := ?vn20) rfl (by kernel_rfl) (by kernel_rfl) (by kernel_rfl) (fun _ _ _ h => h) (Or.inl ⟨by rfl, ?hn20⟩) (by assumption) ?rn20
            case hn20 => (intro w hSw; (try dsimp only at hSw); go_simp; (try with_reducible rfl))
            try simp only [Act.put, List.getElem_toArray, List.getElem_cons_zero, List.getElem_cons_succ, List.setIfInBounds_toArray, List.set_cons_zero, List.set_cons_succ]
            refine wpAnyH_take (i := 10) (oi := _) (v := ?vn21) rfl (by kernel_rfl) (by kernel_rfl) (by kernel_rfl) (fun _ _ _ h => h) (Or.inl ⟨by rfl, ?hn21⟩) (by assumption) ?rn21
            case hn21 => (intro w hSw; (try dsimp only at hSw); go_simp; (try with_reducible rfl))
            try simp only [Act.put, List.getElem_toArray, List.getElem_cons_zero, List.getElem_cons_succ, List.setIfInBounds_toArray, List.set_cons_zero, List.set_cons_succ]
            refine wpAnyH_ready (rs := [0, 11]) (by kernel_rfl) (by simp) ?_
            refine AllReadyH.cons (o := _) rfl (fun K hK => ?_) (AllReadyH.cons (o := _) rfl (fun K hK => ?_) AllReadyH.nil)
            · go_simp
              refine hK.out _ _ (Sets.hold_in hbs hcell (Sets.Foot.wide ((Foot.refl (fun _ => False) wr).drew))) (fun hHeld => ?_)
              clear hK K
              try simp only [Act.put, List.getElem_toArray, List.getElem_cons_zero, List.getElem_cons_succ, List.setIfInBounds_toArray, List.set_cons_zero, List.set_cons_succ]
              refine wpAnyH_ready (rs := [5, 11]) (by kernel_rfl) (by simp) ?_
              refine AllReadyH.cons (o := _) rfl (fun K hK => ?_) (AllReadyH.cons (o := _) rfl (fun K hK => ?_) AllReadyH.nil)
              · go_simp
                (with_reducible refine (CA.out _).mono ?_); rintro e w5 ⟨rfl, hF⟩
                have G5 := Lib.hid ((((Foot.refl (fun _ => False) wr).drew)).trans hF fun _ _ h => h); have N5 := Lib.hid hF; clear hF
                refine hK.out _ _ (Sets.hold_in hbs hcell (Sets.Foot.wide G5.out)) (fun hHeld => ?_)
                clear hK K
                try simp only [Act.put, List.getElem_toArray, List.getElem_cons_zero, List.getElem_cons_succ, List.setIfInBounds_toArray, List.set_cons_zero, List.set_cons_succ]
                refine wpAnyH_ready (rs := [11]) (by kernel_rfl) (by simp) ?_
                refine AllReadyH.cons (o := _) rfl (fun K hK => ?_) AllReadyH.nil
                go_simp
                obtain ⟨w11, hw⟩ : ∃ w', w5.alloc (.cells #[.int .i64 z] 3) = w' := ⟨_, rfl⟩
                rw [hw]
                have G11 : Hid (Foot (fun _ => False) wr w11) := Lib.hid (by rw [← hw]; exact (G5.out).alloc _)
                have B11 : Hid (At w11 w5.heap.size 3 #[.int .i64 z]) := Lib.hid (by rw [← hw]; exact At.new _ _ _)
                clear hw
                refine hK.out _ _ (Sets.hold_in hbs hcell (Sets.Foot.wide G11.out)) (fun hHeld => ?_)
                clear hK K
                try simp only [Act.put, List.getElem_toArray, List.getElem_cons_zero, List.getElem_cons_succ, List.setIfInBounds_toArray, List.set_cons_zero, List.set_cons_succ]
                refine wpAnyH_ready (rs := [12]) (by kernel_rfl) (by simp) ?_
                refine AllReadyH.cons (o := _) rfl (fun K hK => ?_) AllReadyH.nil
                go_simp
                (with_reducible refine (CB.out _ _ (HM.out.keep (G11.out) fun _ _ => id) (B11.out)).mono ?_); rintro e w12 ⟨a12, d12, rfl, hI12, hO12, hF12⟩
                have G12 := Lib.hid ((G11.out).trans hF12 fun _ _ h => h); have R12 := Lib.hid hI12.reads
                have O12 : Hid (∀ x, a12 = some x → x.block ≠ w.heap.size) := Lib.hid fun x hx e => by subst hx; have h1 := hO12 x.block rfl; have h2 := (G11.out).size; have h3 := L.out.s.lt; omega
                clear hI12 hO12 hF12
                have A12 := L.out.s.foot G12.out
                have k0 := A12.c0
                have k1 := A12.c1
                have k2 := At.free A12 0
                have k3 := At.free A12 1
                clear A12
                refine hK.out _ _ (Sets.hold_in hbs hcell (Sets.Foot.wide G12.out)) (fun hHeld => ?_)
                clear hK K
                try simp only [Act.put, List.getElem_toArray, List.getElem_cons_zero, List.getElem_cons_succ, List.setIfInBounds_toArray, List.set_cons_zero, List.set_cons_succ]
                refine wpAnyH_ready (rs := [13]) (by kernel_rfl) (by simp) ?_
                refine AllReadyH.cons (o := _) rfl (fun K hK => ?_) AllReadyH.nil
                go_simp
                refine hK.out _ _ (Sets.hold_in hbs hcell (((Sets.Foot.wide (S := fun x => x = w.heap.size) G12.out).setCell (p := ⟨w.heap.size, 0, none⟩) (fun _ => rfl) _).setCell (p := ⟨w.heap.size, 1, none⟩) (fun _ => rfl) _)) (fun hHeld => ?_)
                clear hK K
                try simp only [Act.put, List.getElem_toArray, List.getElem_cons_zero, List.getElem_cons_succ, List.setIfInBounds_toArray, List.set_cons_zero, List.set_cons_succ]
                refine wpAnyH_take (i := 14) (oi := _) (v := ?vn22) rfl (by kernel_rfl) (by kernel_rfl) (by kernel_rfl) (fun _ _ _ h => h) (Or.inl ⟨by rfl, ?hn22⟩) (by assumption) ?rn22
                case hn22 => (intro w hSw; (try dsimp only at hSw); go_simp; (try with_reducible rfl))
                try simp only [Act.put, List.getElem_toArray, List.getElem_cons_zero, List.getElem_cons_succ, List.setIfInBounds_toArray, List.set_cons_zero, List.set_cons_succ]
                refine wpAnyH_done (by kernel_rfl) ?_ _
                refine NoPanic.normal ?_
                go_wp2_with fail
                go_meet
                case rel => exact ⟨p2, a12, d12, rfl, L.out.stored G12.out R12.out O12.out⟩
              · go_simp
                obtain ⟨w11, hw⟩ : ∃ w', (wr.alloc (.cells #[.int .i64 z] 3)).drew = w' := ⟨_, rfl⟩
                rw [hw]
                have G11 : Hid (Foot (fun _ => False) wr w11) := Lib.hid (by rw [← hw]; exact ((Foot.refl _ wr).alloc _).drew)
                have B11 : Hid (At w11 wr.heap.size 3 #[.int .i64 z]) := Lib.hid (by rw [← hw]; exact At.new wr _ _)
                clear hw
                refine hK.out _ _ (Sets.hold_in hbs hcell (Sets.Foot.wide G11.out)) (fun hHeld => ?_)
                clear hK K
                try simp only [Act.put, List.getElem_toArray, List.getElem_cons_zero, List.getElem_cons_succ, List.setIfInBounds_toArray, List.set_cons_zero, List.set_cons_succ]
                refine wpAnyH_ready (rs := [5]) (by kernel_rfl) (by simp) ?_
                refine AllReadyH.cons (o := _) rfl (fun K hK => ?_) AllReadyH.nil
                go_simp
                (with_reducible refine (CA.out _).mono ?_); rintro e w5 ⟨rfl, hF⟩
                have G5 := Lib.hid ((G11.out).trans hF fun _ _ h => h); have N5 := Lib.hid hF; clear hF
                refine hK.out _ _ (Sets.hold_in hbs hcell (Sets.Foot.wide G5.out)) (fun hHeld => ?_)
                clear hK K
                try simp only [Act.put, List.getElem_toArray, List.getElem_cons_zero, List.getElem_cons_succ, List.setIfInBounds_toArray, List.set_cons_zero, List.set_cons_succ]
                refine wpAnyH_ready (rs := [12]) (by kernel_rfl) (by simp) ?_
                refine AllReadyH.cons (o := _) rfl (fun K hK => ?_) AllReadyH.nil
                go_simp
                (with_reducible refine (CB.out _ _ (HM.out.keep (G5.out) fun _ _ => id) (B11.out.keep N5.out id)).mono ?_); rintro e w12 ⟨a12, d12, rfl, hI12, hO12, hF12⟩
                have G12 := Lib.hid ((G5.out).trans hF12 fun _ _ h => h); have R12 := Lib.hid hI12.reads
                have O12 : Hid (∀ x, a12 = some x → x.block ≠ w.heap.size) := Lib.hid fun x hx e => by subst hx; have h1 := hO12 x.block rfl; have h2 := (G5.out).size; have h3 := L.out.s.lt; omega
                clear hI12 hO12 hF12
                have A12 := L.out.s.foot G12.out
                have k0 := A12.c0
                have k1 := A12.c1
                have k2 := At.free A12 0
                have k3 := At.free A12 1
                clear A12
                refine hK.out _ _ (Sets.hold_in hbs hcell (Sets.Foot.wide G12.out)) (fun hHeld => ?_)
                clear hK K
                try simp only [Act.put, List.getElem_toArray, List.getElem_cons_zero, List.getElem_cons_succ, List.setIfInBounds_toArray, List.set_cons_zero, List.set_cons_succ]
                refine wpAnyH_ready (rs := [13]) (by kernel_rfl) (by simp) ?_
                refine AllReadyH.cons (o := _) rfl (fun K hK => ?_) AllReadyH.nil
                go_simp
                refine hK.out _ _ (Sets.hold_in hbs hcell (((Sets.Foot.wide (S := fun x => x = w.heap.size) G12.out).setCell (p := ⟨w.heap.size, 0, none⟩) (fun _ => rfl) _).setCell (p := ⟨w.heap.size, 1, none⟩) (fun _ => rfl) _)) (fun hHeld => ?_)
                clear hK K
                try simp only [Act.put, List.getElem_toArray, List.getElem_cons_zero, List.getElem_cons_succ, List.setIfInBounds_toArray, List.set_cons_zero, List.set_cons_succ]
                refine wpAnyH_take (i := 14) (oi := _) (v := ?vn23) rfl (by kernel_rfl) (by kernel_rfl) (by kernel_rfl) (fun _ _ _ h => h) (Or.inl ⟨by rfl, ?hn23⟩) (by assumption) ?rn23
                case hn23 => (intro w hSw; (try dsimp only at hSw); go_simp; (try with_reducible rfl))
                try simp only [Act.put, List.getElem_toArray, List.getElem_cons_zero, List.getElem_cons_succ, List.setIfInBounds_toArray, List.set_cons_zero, List.set_cons_succ]
                refine wpAnyH_done (by kernel_rfl) ?_ _
                refine NoPanic.normal ?_
                go_wp2_with fail
                go_meet
                case rel => exact ⟨p2, a12, d12, rfl, L.out.stored G12.out R12.out O12.out⟩
            · go_simp
              obtain ⟨w11, hw⟩ : ∃ w', (wr.alloc (.cells #[.int .i64 z] 3)).drew = w' := ⟨_, rfl⟩
              rw [hw]
              have G11 : Hid (Foot (fun _ => False) wr w11) := Lib.hid (by rw [← hw]; exact ((Foot.refl _ wr).alloc _).drew)
              have B11 : Hid (At w11 wr.heap.size 3 #[.int .i64 z]) := Lib.hid (by rw [← hw]; exact At.new wr _ _)
              clear hw
              refine hK.out _ _ (Sets.hold_in hbs hcell (Sets.Foot.wide G11.out)) (fun hHeld => ?_)
              clear hK K
              try simp only [Act.put, List.getElem_toArray, List.getElem_cons_zero, List.getElem_cons_succ, List.setIfInBounds_toArray, List.set_cons_zero, List.set_cons_succ]
              have c0 := Sets.hold G11.out c0; have c1 := Sets.hold G11.out c1
              refine wpAnyH_ready (rs := [0]) (by kernel_rfl) (by simp) ?_
              refine AllReadyH.cons (o := _) rfl (fun K hK => ?_) AllReadyH.nil
              go_simp
              refine hK.out _ _ (Sets.hold_in hbs hcell (Sets.Foot.wide G11.out)) (fun hHeld => ?_)
              clear hK K
              try simp only [Act.put, List.getElem_toArray, List.getElem_cons_zero, List.getElem_cons_succ, List.setIfInBounds_toArray, List.set_cons_zero, List.set_cons_succ]
              refine wpAnyH_ready (rs := [5]) (by kernel_rfl) (by simp) ?_
              refine AllReadyH.cons (o := _) rfl (fun K hK => ?_) AllReadyH.nil
              go_simp
              (with_reducible refine (CA.out _).mono ?_); rintro e w5 ⟨rfl, hF⟩
              have G5 := Lib.hid ((G11.out).trans hF fun _ _ h => h); have N5 := Lib.hid hF; clear hF
              refine hK.out _ _ (Sets.hold_in hbs hcell (Sets.Foot.wide G5.out)) (fun hHeld => ?_)
              clear hK K
              try simp only [Act.put, List.getElem_toArray, List.getElem_cons_zero, List.getElem_cons_succ, List.setIfInBounds_toArray, List.set_cons_zero, List.set_cons_succ]
              refine wpAnyH_ready (rs := [12]) (by kernel_rfl) (by simp) ?_
              refine AllReadyH.cons (o := _) rfl (fun K hK => ?_) AllReadyH.nil
              go_simp
              (with_reducible refine (CB.out _ _ (HM.out.keep (G5.out) fun _ _ => id) (B11.out.keep N5.out id)).mono ?_); rintro e w12 ⟨a12, d12, rfl, hI12, hO12, hF12⟩
              have G12 := Lib.hid ((G5.out).trans hF12 fun _ _ h => h); have R12 := Lib.hid hI12.reads
              have O12 : Hid (∀ x, a12 = some x → x.block ≠ w.heap.size) := Lib.hid fun x hx e => by subst hx; have h1 := hO12 x.block rfl; have h2 := (G5.out).size; have h3 := L.out.s.lt; omega
              clear hI12 hO12 hF12
              have A12 := L.out.s.foot G12.out
              have k0 := A12.c0
              have k1 := A12.c1
              have k2 := At.free A12 0
              have k3 := At.free A12 1
              clear A12
              refine hK.out _ _ (Sets.hold_in hbs hcell (Sets.Foot.wide G12.out)) (fun hHeld => ?_)
              clear hK K
              try simp only [Act.put, List.getElem_toArray, List.getElem_cons_zero, List.getElem_cons_succ, List.setIfInBounds_toArray, List.set_cons_zero, List.set_cons_succ]
              refine wpAnyH_ready (rs := [13]) (by kernel_rfl) (by simp) ?_
              refine AllReadyH.cons (o := _) rfl (fun K hK => ?_) AllReadyH.nil
              go_simp
              refine hK.out _ _ (Sets.hold_in hbs hcell (((Sets.Foot.wide (S := fun x => x = w.heap.size) G12.out).setCell (p := ⟨w.heap.size, 0, none⟩) (fun _ => rfl) _).setCell (p := ⟨w.heap.size, 1, none⟩) (fun _ => rfl) _)) (fun hHeld => ?_)
              clear hK K
              try simp only [Act.put, List.getElem_toArray, List.getElem_cons_zero, List.getElem_cons_succ, List.setIfInBounds_toArray, List.set_cons_zero, List.set_cons_succ]
              refine wpAnyH_take (i := 14) (oi := _) (v := ?vn24) rfl (by kernel_rfl) (by kernel_rfl) (by kernel_rfl) (fun _ _ _ h => h) (Or.inl ⟨by rfl, ?hn24⟩) (by assumption) ?rn24
              case hn24 => (intro w hSw; (try dsimp only at hSw); go_simp; (try with_reducible rfl))
              try simp only [Act.put, List.getElem_toArray, List.getElem_cons_zero, List.getElem_cons_succ, List.setIfInBounds_toArray, List.set_cons_zero, List.set_cons_succ]
              refine wpAnyH_done (by kernel_rfl) ?_ _
              refine NoPanic.normal ?_
              go_wp2_with fail
              go_meet
              case rel => exact ⟨p2, a12, d12, rfl, L.out.stored G12.out R12.out O12.out⟩
        case rest =>
          obtain ⟨p2, a2, c2, rfl, hL⟩ := hcut
          have L2 := Sets.Loop3.hstep ((Foot.refl (fun _ => False) wc).drew) (Lib.hid hL)
          have c0 := hL.s.c0
          have c1 := hL.s.c1
          clear hL
          have hn2 : (Refs.nums (els p2)).length ≤ 128 := by rw [Sets.nums_len]; exact els_le p2
          have heq := Sets.eq_yes (p := p2) (q := ofP (Refs.nums (els p2))) fun i hi => (Sets.of_nums p2 i hi).symm
          have CL := Lib.hid fun w hT => Sets.ListOf p2 w hT
          have CS := Lib.hid fun (a b : Option Addr) (c d : Nat) (w : World) (hr : ReadsI w a (Refs.nums (els p2)).length (Refs.nums (els p2))) (hq : ReadsI w b (Refs.nums (els p2)).length (Refs.nums (els p2))) => Sets.Same_yes a b _ _ c d _ w hr hq (by omega) (by omega)
          have CO := Lib.hid fun (a : Option Addr) (c : Nat) (w : World) (hr : ReadsI w a (Refs.nums (els p2)).length (Refs.nums (els p2))) => Sets.Of a _ c (Refs.nums (els p2)) w hr (by omega) (Sets.nums_fits p2)
          generalize ofP (Refs.nums (els p2)) = x2 at *
          go_wp2_with fail
          go_region_held3 (fun w' => w'.cell? ⟨w.heap.size, 0, none⟩ = some (.int .u64 (lo p2 : Nat)) ∧ w'.cell? ⟨w.heap.size, 1, none⟩ = some (.int .u64 (hi p2 : Nat)) ∧ Hid (Sets.Loop3 w w' w.heap.size p2 a2))
            (exact Sets.Loop3.hold (by assumption))
            (first
              | (go_at_call 13; (with_reducible refine (CL.out _ (Hid.out (by assumption : Hid (Sets.Loop3 w _ w.heap.size p2 a2))).tab).mono ?_); intro e wl hgl; obtain ⟨al, dl, rfl, hrl, hFl⟩ := hgl.of; have El := Sets.Loop3.hstep hFl (by assumption : Hid (Sets.Loop3 w _ w.heap.size p2 a2)))
              | (go_at_call 12; (with_reducible refine (CS.out _ _ _ _ _ hrl El.out.m).mono ?_); rintro e ws ⟨rfl, hFs⟩; have Es := Sets.Loop3.hstep hFs (by assumption : Hid (Sets.Loop3 w _ w.heap.size p2 a2)))
              | (go_at_call 10; (with_reducible refine (CO.out _ _ _ Es.out.m).mono ?_); rintro e wo ⟨rfl, hFo⟩; have Eo := Sets.Loop3.hstep hFo (by assumption : Hid (Sets.Loop3 w _ w.heap.size p2 a2))))
          go_wp2_with fail
          go_roundg (len0 - (j + 1))
          case measure => have := HGK.out; omega
          case rel => exact ⟨j + 1, p2, a2, c2, by omega, by go_num, rfl, Eo.out⟩
      · go_upto_if 27 with fail
        go_cut [6] (fun m wx => ∃ (p2 : Nat → Bool) (a2 : Option Addr) (c2 : Nat), m = .slice a2 (Refs.nums (els p2)).length c2 ∧ Sets.Loop3 w wx w.heap.size p2 a2)
        case first =>
          obtain ⟨p2, hp2⟩ : ∃ p2, p2 = ofP (Refs.nums (els p) ++ [z]) := ⟨_, rfl⟩
          have CA := Lib.hid fun W => (by have h := Sets.With p z W hz; rw [lo_congr (Sets.of_snoc p z), hi_congr (Sets.of_snoc p z), ← hp2] at h; exact h :
            Calls Tryd.prog 25 #[.agg #[.int .u64 (lo p : Nat), .int .u64 (hi p : Nat)], .int .i64 z] W fun e w' => e = .returned (.agg #[.int .u64 (lo p2 : Nat), .int .u64 (hi p2 : Nat)]) ∧ Foot (fun _ => False) W w')
          have CB := Lib.hid fun (g : Nat) (W : World) (hm : ReadsI W am (Refs.nums (els p)).length (Refs.nums (els p))) (hg : At W g 3 #[.int .i64 z]) => (by have h := Refs.Or am (some ⟨g, 0, none⟩) _ 1 cm 1 _ [z] W hm (At.reads (zs := [z]) hg) (by omega) (by omega); rw [← hp2] at h; exact h :
            Calls Tryd.prog 18 #[.slice am (Refs.nums (els p)).length cm, .slice (some ⟨g, 0, none⟩) 1 1] W (Refs.Gives W (Refs.nums (els p2))))
          clear hp2
          have c0 := L.out.s.c0
          have c1 := L.out.s.c1
          go_wp2_with fail
          refine wp_region_noPanic ?_
          refine wp_region_held_drew (S := (fun w' => w'.cell? ⟨b, off + j, none⟩ = some (.int .i64 z) ∧ Hid (Foot (fun x => x = w.heap.size) wr w'))) (by kernel_rfl) (Sets.hold_in hbs hcell ((Foot.refl (fun x => x = w.heap.size) wr).drew)) (fun hHeld => ?_)
          refine wpAnyH_take (i := 1) (oi := _) (v := ?vn25) rfl (by kernel_rfl) (by kernel_rfl) (by kernel_rfl) (fun _ _ _ h => h) (Or.inl ⟨by rfl, ?hn25⟩) (by assumption) ?rn25
          case hn25 => (intro w hSw; (try dsimp only at hSw); go_simp; (try with_reducible rfl))
          try simp only [Act.put, List.getElem_toArray, List.getElem_cons_zero, List.getElem_cons_succ, List.setIfInBounds_toArray, List.set_cons_zero, List.set_cons_succ]
          refine wpAnyH_take (i := 2) (oi := _) (v := ?vn26) rfl (by kernel_rfl) (by kernel_rfl) (by kernel_rfl) (fun _ _ _ h => h) (Or.inl ⟨by rfl, ?hn26⟩) (by assumption) ?rn26
          case hn26 => (intro w hSw; (try dsimp only at hSw); go_simp; (try with_reducible rfl))
          try simp only [Act.put, List.getElem_toArray, List.getElem_cons_zero, List.getElem_cons_succ, List.setIfInBounds_toArray, List.set_cons_zero, List.set_cons_succ]
          refine wpAnyH_take (i := 3) (oi := _) (v := ?vn27) rfl (by kernel_rfl) (by kernel_rfl) (by kernel_rfl) (fun _ _ _ h => h) (Or.inl ⟨by rfl, ?hn27⟩) (by assumption) ?rn27
          case hn27 => (intro w hSw; (try dsimp only at hSw); go_simp; (try with_reducible rfl))
          try simp only [Act.put, List.getElem_toArray, List.getElem_cons_zero, List.getElem_cons_succ, List.setIfInBounds_toArray, List.set_cons_zero, List.set_cons_succ]
          refine wpAnyH_take (i := 4) (oi := _) (v := ?vn28) rfl (by kernel_rfl) (by kernel_rfl) (by kernel_rfl) (fun _ _ _ h => h) (Or.inl ⟨by rfl, ?hn28⟩) (by assumption) ?rn28
          case hn28 => (intro w hSw; (try dsimp only at hSw); go_simp; (try with_reducible rfl))
          try simp only [Act.put, List.getElem_toArray, List.getElem_cons_zero, List.getElem_cons_succ, List.setIfInBounds_toArray, List.set_cons_zero, List.set_cons_succ]
          refine wpAnyH_take (i := 6) (oi := _) (v := ?vn29) rfl (by kernel_rfl) (by kernel_rfl) (by kernel_rfl) (fun _ _ _ h => h) (Or.inl ⟨by rfl, ?hn29⟩) (by assumption) ?rn29
          case hn29 => (intro w hSw; (try dsimp only at hSw); go_simp; (try with_reducible rfl))
          try simp only [Act.put, List.getElem_toArray, List.getElem_cons_zero, List.getElem_cons_succ, List.setIfInBounds_toArray, List.set_cons_zero, List.set_cons_succ]
          refine wpAnyH_take (i := 7) (oi := _) (v := ?vn30) rfl (by kernel_rfl) (by kernel_rfl) (by kernel_rfl) (fun _ _ _ h => h) (Or.inl ⟨by rfl, ?hn30⟩) (by assumption) ?rn30
          case hn30 => (intro w hSw; (try dsimp only at hSw); go_simp; (try with_reducible rfl))
          try simp only [Act.put, List.getElem_toArray, List.getElem_cons_zero, List.getElem_cons_succ, List.setIfInBounds_toArray, List.set_cons_zero, List.set_cons_succ]
          refine wpAnyH_take (i := 8) (oi := _) (v := ?vn31) rfl (by kernel_rfl) (by kernel_rfl) (by kernel_rfl) (fun _ _ _ h => h) (Or.inl ⟨by rfl, ?hn31⟩) (by assumption) ?rn31
          case hn31 => (intro w hSw; (try dsimp only at hSw); go_simp; (try with_reducible rfl))
          try simp only [Act.put, List.getElem_toArray, List.getElem_cons_zero, List.getElem_cons_succ, List.setIfInBounds_toArray, List.set_cons_zero, List.set_cons_succ]
          refine wpAnyH_take (i := 9) (oi := _) (v := ?vn32) rfl (by kernel_rfl) (by kernel_rfl) (by kernel_rfl) (fun _ _ _ h => h) (Or.inl ⟨by rfl, ?hn32⟩) (by assumption) ?rn32
          case hn32 => (intro w hSw; (try dsimp only at hSw); go_simp; (try with_reducible rfl))
          try simp only [Act.put, List.getElem_toArray, List.getElem_cons_zero, List.getElem_cons_succ, List.setIfInBounds_toArray, List.set_cons_zero, List.set_cons_succ]
          refine wpAnyH_take (i := 10) (oi := _) (v := ?vn33) rfl (by kernel_rfl) (by kernel_rfl) (by kernel_rfl) (fun _ _ _ h => h) (Or.inl ⟨by rfl, ?hn33⟩) (by assumption) ?rn33
          case hn33 => (intro w hSw; (try dsimp only at hSw); go_simp; (try with_reducible rfl))
          try simp only [Act.put, List.getElem_toArray, List.getElem_cons_zero, List.getElem_cons_succ, List.setIfInBounds_toArray, List.set_cons_zero, List.set_cons_succ]
          refine wpAnyH_ready (rs := [0, 11]) (by kernel_rfl) (by simp) ?_
          refine AllReadyH.cons (o := _) rfl (fun K hK => ?_) (AllReadyH.cons (o := _) rfl (fun K hK => ?_) AllReadyH.nil)
          · go_simp
            refine hK.out _ _ (Sets.hold_in hbs hcell (Sets.Foot.wide ((Foot.refl (fun _ => False) wr).drew))) (fun hHeld => ?_)
            clear hK K
            try simp only [Act.put, List.getElem_toArray, List.getElem_cons_zero, List.getElem_cons_succ, List.setIfInBounds_toArray, List.set_cons_zero, List.set_cons_succ]
            refine wpAnyH_ready (rs := [5, 11]) (by kernel_rfl) (by simp) ?_
            refine AllReadyH.cons (o := _) rfl (fun K hK => ?_) (AllReadyH.cons (o := _) rfl (fun K hK => ?_) AllReadyH.nil)
            · go_simp
              (with_reducible refine (CA.out _).mono ?_); rintro e w5 ⟨rfl, hF⟩
              have G5 := Lib.hid ((((Foot.refl (fun _ => False) wr).drew)).trans hF fun _ _ h => h); have N5 := Lib.hid hF; clear hF
              refine hK.out _ _ (Sets.hold_in hbs hcell (Sets.Foot.wide G5.out)) (fun hHeld => ?_)
              clear hK K
              try simp only [Act.put, List.getElem_toArray, List.getElem_cons_zero, List.getElem_cons_succ, List.setIfInBounds_toArray, List.set_cons_zero, List.set_cons_succ]
              refine wpAnyH_ready (rs := [11]) (by kernel_rfl) (by simp) ?_
              refine AllReadyH.cons (o := _) rfl (fun K hK => ?_) AllReadyH.nil
              go_simp
              obtain ⟨w11, hw⟩ : ∃ w', w5.alloc (.cells #[.int .i64 z] 3) = w' := ⟨_, rfl⟩
              rw [hw]
              have G11 : Hid (Foot (fun _ => False) wr w11) := Lib.hid (by rw [← hw]; exact (G5.out).alloc _)
              have B11 : Hid (At w11 w5.heap.size 3 #[.int .i64 z]) := Lib.hid (by rw [← hw]; exact At.new _ _ _)
              clear hw
              refine hK.out _ _ (Sets.hold_in hbs hcell (Sets.Foot.wide G11.out)) (fun hHeld => ?_)
              clear hK K
              try simp only [Act.put, List.getElem_toArray, List.getElem_cons_zero, List.getElem_cons_succ, List.setIfInBounds_toArray, List.set_cons_zero, List.set_cons_succ]
              refine wpAnyH_ready (rs := [12]) (by kernel_rfl) (by simp) ?_
              refine AllReadyH.cons (o := _) rfl (fun K hK => ?_) AllReadyH.nil
              go_simp
              (with_reducible refine (CB.out _ _ (HM.out.keep (G11.out) fun _ _ => id) (B11.out)).mono ?_); rintro e w12 ⟨a12, d12, rfl, hI12, hO12, hF12⟩
              have G12 := Lib.hid ((G11.out).trans hF12 fun _ _ h => h); have R12 := Lib.hid hI12.reads
              have O12 : Hid (∀ x, a12 = some x → x.block ≠ w.heap.size) := Lib.hid fun x hx e => by subst hx; have h1 := hO12 x.block rfl; have h2 := (G11.out).size; have h3 := L.out.s.lt; omega
              clear hI12 hO12 hF12
              have A12 := L.out.s.foot G12.out
              have k0 := A12.c0
              have k1 := A12.c1
              have k2 := At.free A12 0
              have k3 := At.free A12 1
              clear A12
              refine hK.out _ _ (Sets.hold_in hbs hcell (Sets.Foot.wide G12.out)) (fun hHeld => ?_)
              clear hK K
              try simp only [Act.put, List.getElem_toArray, List.getElem_cons_zero, List.getElem_cons_succ, List.setIfInBounds_toArray, List.set_cons_zero, List.set_cons_succ]
              refine wpAnyH_ready (rs := [13]) (by kernel_rfl) (by simp) ?_
              refine AllReadyH.cons (o := _) rfl (fun K hK => ?_) AllReadyH.nil
              go_simp
              refine hK.out _ _ (Sets.hold_in hbs hcell (((Sets.Foot.wide (S := fun x => x = w.heap.size) G12.out).setCell (p := ⟨w.heap.size, 0, none⟩) (fun _ => rfl) _).setCell (p := ⟨w.heap.size, 1, none⟩) (fun _ => rfl) _)) (fun hHeld => ?_)
              clear hK K
              try simp only [Act.put, List.getElem_toArray, List.getElem_cons_zero, List.getElem_cons_succ, List.setIfInBounds_toArray, List.set_cons_zero, List.set_cons_succ]
              refine wpAnyH_take (i := 14) (oi := _) (v := ?vn34) rfl (by kernel_rfl) (by kernel_rfl) (by kernel_rfl) (fun _ _ _ h => h) (Or.inl ⟨by rfl, ?hn34⟩) (by assumption) ?rn34
              case hn34 => (intro w hSw; (try dsimp only at hSw); go_simp; (try with_reducible rfl))
              try simp only [Act.put, List.getElem_toArray, List.getElem_cons_zero, List.getElem_cons_succ, List.setIfInBounds_toArray, List.set_cons_zero, List.set_cons_succ]
              refine wpAnyH_done (by kernel_rfl) ?_ _
              refine NoPanic.normal ?_
              go_wp2_with fail
              go_meet
              case rel => exact ⟨p2, a12, d12, rfl, L.out.stored G12.out R12.out O12.out⟩
            · go_simp
              obtain ⟨w11, hw⟩ : ∃ w', (wr.alloc (.cells #[.int .i64 z] 3)).drew = w' := ⟨_, rfl⟩
              rw [hw]
              have G11 : Hid (Foot (fun _ => False) wr w11) := Lib.hid (by rw [← hw]; exact ((Foot.refl _ wr).alloc _).drew)
              have B11 : Hid (At w11 wr.heap.size 3 #[.int .i64 z]) := Lib.hid (by rw [← hw]; exact At.new wr _ _)
              clear hw
              refine hK.out _ _ (Sets.hold_in hbs hcell (Sets.Foot.wide G11.out)) (fun hHeld => ?_)
              clear hK K
              try simp only [Act.put, List.getElem_toArray, List.getElem_cons_zero, List.getElem_cons_succ, List.setIfInBounds_toArray, List.set_cons_zero, List.set_cons_succ]
              refine wpAnyH_ready (rs := [5]) (by kernel_rfl) (by simp) ?_
              refine AllReadyH.cons (o := _) rfl (fun K hK => ?_) AllReadyH.nil
              go_simp
              (with_reducible refine (CA.out _).mono ?_); rintro e w5 ⟨rfl, hF⟩
              have G5 := Lib.hid ((G11.out).trans hF fun _ _ h => h); have N5 := Lib.hid hF; clear hF
              refine hK.out _ _ (Sets.hold_in hbs hcell (Sets.Foot.wide G5.out)) (fun hHeld => ?_)
              clear hK K
              try simp only [Act.put, List.getElem_toArray, List.getElem_cons_zero, List.getElem_cons_succ, List.setIfInBounds_toArray, List.set_cons_zero, List.set_cons_succ]
              refine wpAnyH_ready (rs := [12]) (by kernel_rfl) (by simp) ?_
              refine AllReadyH.cons (o := _) rfl (fun K hK => ?_) AllReadyH.nil
              go_simp
              (with_reducible refine (CB.out _ _ (HM.out.keep (G5.out) fun _ _ => id) (B11.out.keep N5.out id)).mono ?_); rintro e w12 ⟨a12, d12, rfl, hI12, hO12, hF12⟩
              have G12 := Lib.hid ((G5.out).trans hF12 fun _ _ h => h); have R12 := Lib.hid hI12.reads
              have O12 : Hid (∀ x, a12 = some x → x.block ≠ w.heap.size) := Lib.hid fun x hx e => by subst hx; have h1 := hO12 x.block rfl; have h2 := (G5.out).size; have h3 := L.out.s.lt; omega
              clear hI12 hO12 hF12
              have A12 := L.out.s.foot G12.out
              have k0 := A12.c0
              have k1 := A12.c1
              have k2 := At.free A12 0
              have k3 := At.free A12 1
              clear A12
              refine hK.out _ _ (Sets.hold_in hbs hcell (Sets.Foot.wide G12.out)) (fun hHeld => ?_)
              clear hK K
              try simp only [Act.put, List.getElem_toArray, List.getElem_cons_zero, List.getElem_cons_succ, List.setIfInBounds_toArray, List.set_cons_zero, List.set_cons_succ]
              refine wpAnyH_ready (rs := [13]) (by kernel_rfl) (by simp) ?_
              refine AllReadyH.cons (o := _) rfl (fun K hK => ?_) AllReadyH.nil
              go_simp
              refine hK.out _ _ (Sets.hold_in hbs hcell (((Sets.Foot.wide (S := fun x => x = w.heap.size) G12.out).setCell (p := ⟨w.heap.size, 0, none⟩) (fun _ => rfl) _).setCell (p := ⟨w.heap.size, 1, none⟩) (fun _ => rfl) _)) (fun hHeld => ?_)
              clear hK K
              try simp only [Act.put, List.getElem_toArray, List.getElem_cons_zero, List.getElem_cons_succ, List.setIfInBounds_toArray, List.set_cons_zero, List.set_cons_succ]
              refine wpAnyH_take (i := 14) (oi := _) (v := ?vn35) rfl (by kernel_rfl) (by kernel_rfl) (by kernel_rfl) (fun _ _ _ h => h) (Or.inl ⟨by rfl, ?hn35⟩) (by assumption) ?rn35
              case hn35 => (intro w hSw; (try dsimp only at hSw); go_simp; (try with_reducible rfl))
              try simp only [Act.put, List.getElem_toArray, List.getElem_cons_zero, List.getElem_cons_succ, List.setIfInBounds_toArray, List.set_cons_zero, List.set_cons_succ]
              refine wpAnyH_done (by kernel_rfl) ?_ _
              refine NoPanic.normal ?_
              go_wp2_with fail
              go_meet
              case rel => exact ⟨p2, a12, d12, rfl, L.out.stored G12.out R12.out O12.out⟩
          · go_simp
            obtain ⟨w11, hw⟩ : ∃ w', (wr.alloc (.cells #[.int .i64 z] 3)).drew = w' := ⟨_, rfl⟩
            rw [hw]
            have G11 : Hid (Foot (fun _ => False) wr w11) := Lib.hid (by rw [← hw]; exact ((Foot.refl _ wr).alloc _).drew)
            have B11 : Hid (At w11 wr.heap.size 3 #[.int .i64 z]) := Lib.hid (by rw [← hw]; exact At.new wr _ _)
            clear hw
            refine hK.out _ _ (Sets.hold_in hbs hcell (Sets.Foot.wide G11.out)) (fun hHeld => ?_)
            clear hK K
            try simp only [Act.put, List.getElem_toArray, List.getElem_cons_zero, List.getElem_cons_succ, List.setIfInBounds_toArray, List.set_cons_zero, List.set_cons_succ]
            have c0 := Sets.hold G11.out c0; have c1 := Sets.hold G11.out c1
            refine wpAnyH_ready (rs := [0]) (by kernel_rfl) (by simp) ?_
            refine AllReadyH.cons (o := _) rfl (fun K hK => ?_) AllReadyH.nil
            go_simp
            refine hK.out _ _ (Sets.hold_in hbs hcell (Sets.Foot.wide G11.out)) (fun hHeld => ?_)
            clear hK K
            try simp only [Act.put, List.getElem_toArray, List.getElem_cons_zero, List.getElem_cons_succ, List.setIfInBounds_toArray, List.set_cons_zero, List.set_cons_succ]
            refine wpAnyH_ready (rs := [5]) (by kernel_rfl) (by simp) ?_
            refine AllReadyH.cons (o := _) rfl (fun K hK => ?_) AllReadyH.nil
            go_simp
            (with_reducible refine (CA.out _).mono ?_); rintro e w5 ⟨rfl, hF⟩
            have G5 := Lib.hid ((G11.out).trans hF fun _ _ h => h); have N5 := Lib.hid hF; clear hF
            refine hK.out _ _ (Sets.hold_in hbs hcell (Sets.Foot.wide G5.out)) (fun hHeld => ?_)
            clear hK K
            try simp only [Act.put, List.getElem_toArray, List.getElem_cons_zero, List.getElem_cons_succ, List.setIfInBounds_toArray, List.set_cons_zero, List.set_cons_succ]
            refine wpAnyH_ready (rs := [12]) (by kernel_rfl) (by simp) ?_
            refine AllReadyH.cons (o := _) rfl (fun K hK => ?_) AllReadyH.nil
            go_simp
            (with_reducible refine (CB.out _ _ (HM.out.keep (G5.out) fun _ _ => id) (B11.out.keep N5.out id)).mono ?_); rintro e w12 ⟨a12, d12, rfl, hI12, hO12, hF12⟩
            have G12 := Lib.hid ((G5.out).trans hF12 fun _ _ h => h); have R12 := Lib.hid hI12.reads
            have O12 : Hid (∀ x, a12 = some x → x.block ≠ w.heap.size) := Lib.hid fun x hx e => by subst hx; have h1 := hO12 x.block rfl; have h2 := (G5.out).size; have h3 := L.out.s.lt; omega
            clear hI12 hO12 hF12
            have A12 := L.out.s.foot G12.out
            have k0 := A12.c0
            have k1 := A12.c1
            have k2 := At.free A12 0
            have k3 := At.free A12 1
            clear A12
            refine hK.out _ _ (Sets.hold_in hbs hcell (Sets.Foot.wide G12.out)) (fun hHeld => ?_)
            clear hK K
            try simp only [Act.put, List.getElem_toArray, List.getElem_cons_zero, List.getElem_cons_succ, List.setIfInBounds_toArray, List.set_cons_zero, List.set_cons_succ]
            refine wpAnyH_ready (rs := [13]) (by kernel_rfl) (by simp) ?_
            refine AllReadyH.cons (o := _) rfl (fun K hK => ?_) AllReadyH.nil
            go_simp
            refine hK.out _ _ (Sets.hold_in hbs hcell (((Sets.Foot.wide (S := fun x => x = w.heap.size) G12.out).setCell (p := ⟨w.heap.size, 0, none⟩) (fun _ => rfl) _).setCell (p := ⟨w.heap.size, 1, none⟩) (fun _ => rfl) _)) (fun hHeld => ?_)
            clear hK K
            try simp only [Act.put, List.getElem_toArray, List.getElem_cons_zero, List.getElem_cons_succ, List.setIfInBounds_toArray, List.set_cons_zero, List.set_cons_succ]
            refine wpAnyH_take (i := 14) (oi := _) (v := ?vn36) rfl (by kernel_rfl) (by kernel_rfl) (by kernel_rfl) (fun _ _ _ h => h) (Or.inl ⟨by rfl, ?hn36⟩) (by assumption) ?rn36
            case hn36 => (intro w hSw; (try dsimp only at hSw); go_simp; (try with_reducible rfl))
            try simp only [Act.put, List.getElem_toArray, List.getElem_cons_zero, List.getElem_cons_succ, List.setIfInBounds_toArray, List.set_cons_zero, List.set_cons_succ]
            refine wpAnyH_done (by kernel_rfl) ?_ _
            refine NoPanic.normal ?_
            go_wp2_with fail
            go_meet
            case rel => exact ⟨p2, a12, d12, rfl, L.out.stored G12.out R12.out O12.out⟩
        case rest =>
          obtain ⟨p2, a2, c2, rfl, hL⟩ := hcut
          have L2 := Sets.Loop3.hstep ((Foot.refl (fun _ => False) wc).drew) (Lib.hid hL)
          have c0 := hL.s.c0
          have c1 := hL.s.c1
          clear hL
          have hn2 : (Refs.nums (els p2)).length ≤ 128 := by rw [Sets.nums_len]; exact els_le p2
          have heq := Sets.eq_yes (p := p2) (q := ofP (Refs.nums (els p2))) fun i hi => (Sets.of_nums p2 i hi).symm
          have CL := Lib.hid fun w hT => Sets.ListOf p2 w hT
          have CS := Lib.hid fun (a b : Option Addr) (c d : Nat) (w : World) (hr : ReadsI w a (Refs.nums (els p2)).length (Refs.nums (els p2))) (hq : ReadsI w b (Refs.nums (els p2)).length (Refs.nums (els p2))) => Sets.Same_yes a b _ _ c d _ w hr hq (by omega) (by omega)
          have CO := Lib.hid fun (a : Option Addr) (c : Nat) (w : World) (hr : ReadsI w a (Refs.nums (els p2)).length (Refs.nums (els p2))) => Sets.Of a _ c (Refs.nums (els p2)) w hr (by omega) (Sets.nums_fits p2)
          generalize ofP (Refs.nums (els p2)) = x2 at *
          go_wp2_with fail
          go_region_held3 (fun w' => w'.cell? ⟨w.heap.size, 0, none⟩ = some (.int .u64 (lo p2 : Nat)) ∧ w'.cell? ⟨w.heap.size, 1, none⟩ = some (.int .u64 (hi p2 : Nat)) ∧ Hid (Sets.Loop3 w w' w.heap.size p2 a2))
            (exact Sets.Loop3.hold (by assumption))
            (first
              | (go_at_call 13; (with_reducible refine (CL.out _ (Hid.out (by assumption : Hid (Sets.Loop3 w _ w.heap.size p2 a2))).tab).mono ?_); intro e wl hgl; obtain ⟨al, dl, rfl, hrl, hFl⟩ := hgl.of; have El := Sets.Loop3.hstep hFl (by assumption : Hid (Sets.Loop3 w _ w.heap.size p2 a2)))
              | (go_at_call 12; (with_reducible refine (CS.out _ _ _ _ _ hrl El.out.m).mono ?_); rintro e ws ⟨rfl, hFs⟩; have Es := Sets.Loop3.hstep hFs (by assumption : Hid (Sets.Loop3 w _ w.heap.size p2 a2)))
              | (go_at_call 10; (with_reducible refine (CO.out _ _ _ Es.out.m).mono ?_); rintro e wo ⟨rfl, hFo⟩; have Eo := Sets.Loop3.hstep hFo (by assumption : Hid (Sets.Loop3 w _ w.heap.size p2 a2))))
          go_wp2_with fail
          go_roundg (len0 - (j + 1))
          case measure => have := HGK.out; omega
          case rel => exact ⟨j + 1, p2, a2, c2, by omega, by go_num, rfl, Eo.out⟩
    · obtain rfl : j = len0 := by have := HGK.out; omega
      clear hlt
      have F := Lib.hid L.out.foot
      have T := Lib.hid L.out.tab
      go_wp2_with fail
      refine (CK.out _ T.out).mono ?_
      rintro e w4 ⟨rfl, hF⟩
      have HF := Lib.hid (F.out.trans hF fun _ _ h => h); clear hF
      go_wp2_with fail
      go_ret
      exact ⟨rfl, Sets.Foot.bel HF.out⟩

set_option maxRecDepth 100000 in
theorem lifted (os : Os) (started : os.Started) (H : Type) (enc : TypeId × Value → H) :
    ReturnsInHanded {} Tryd.checked os 4 .any (fun w args => (Rows.setStepsSpec.pre enc Tryd.prog Tryd.f4 [] false w args ∧ laidMetH Tryd.prog listed w) ∧ sizedMet enc Tryd.prog Tryd.f4 (OpenSpec.ofChange Rows.setStepsSpec) false w args) (Rows.setStepsSpec.post enc Tryd.prog Tryd.f4 false true false false) := by
  refine returnsInHanded_of_change_and (C := Tryd.checked) (X := fun w _ => laidMetH Tryd.prog listed w) (fun _ _ _ hh h => h.of_heap hh) own started (by kernel_rfl) Tryd.func4
    (ChangeSpec.witness_shaped (enc := enc) (C := Tryd.checked) (os := os) (X := fun w _ => laidMetH Tryd.prog listed w) false (World.doorLaid Tryd.prog 400 os) #[.slice none 0 0, .slice none 0 0] 8 rfl (World.shaped_of_RefB (by kernel_rfl) (by kernel_rfl)) (by kernel_rfl) (by kernel_rfl) (by kernel_rfl) (door_met os _)) ?_
  intro W base args ds gs before hval0 hW _ _ hL _
  have tab := of_laid hL
  have hval : ∀ (j : Nat) t v, Tryd.f4.params[j]? = some t → args[j]? = some v → Value.okWide Tryd.prog W .any base t v := hval0
  have hW' := hW
  obtain ⟨p, q, hA0, hV, rfl, hfz, hnd⟩ := hW
  have hA : DataW.TrodAll enc Tryd.prog W 0 (fun _ => true) true Tryd.f4.params.toList args.toList ds p := hA0
  rw [Tryd.params4] at hA hval
  obtain ⟨v0, vs0, d0, ds0, p0, q0, hargs, rfl, rfl, h0, r0⟩ := trodAll_cons hA
  obtain ⟨v1, vs1, d1, ds1, p1, q1, rfl, rfl, rfl, h1, r1⟩ := trodAll_cons r0
  obtain ⟨rfl, rfl, rfl⟩ := trodAll_nil r1
  obtain rfl : args = #[v0, v1] := by cases args; simp_all
  obtain ⟨rfl, rfl⟩ := trodVars_none hV
  obtain ⟨a0, len0, cap0, rfl⟩ := okWide_slice Tryd.underlying22 (hval 0 22 v0 rfl rfl)
  have k0 := h0
  have lt0 : ∀ x ∈ p0, x.block < W.heap.size := by obtain ⟨m, hm⟩ := k0; exact DataW.trod_lt m _ _ _ hm
  obtain ⟨z0, w0⟩ := openA0 h0
  obtain ⟨a1, len1, cap1, rfl⟩ := okWide_slice Tryd.underlying40 (hval 1 40 v1 rfl rfl)
  have k1 := h1
  have lt1 : ∀ x ∈ p1, x.block < W.heap.size := by obtain ⟨m, hm⟩ := k1; exact DataW.trod_lt m _ _ _ hm
  obtain ⟨z1, w1⟩ := openA1 h1
  clear hA0 hval0
  refine (walk a0 len0 cap0 z0 a1 len1 cap1 z1 W w0 w1 tab).mono fun e W' ⟨he, bel⟩ => ?_
  subst he
  exact ⟨_, rfl, _, _, _, [], _, [], hW', trodAll_mk1 (shut_bool Tryd.underlying4 _), (trodAll_cons_mk (Below.trod laidOut (by kernel_rfl) (of_decide_eq_true (by kernel_rfl)) k0 bel lt0) (trodAll_cons_mk (Below.trod laidOut (by kernel_rfl) (of_decide_eq_true (by kernel_rfl)) k1 bel lt1) trodAll_mk0)), rfl, bel.frame _, fun h => by cases h⟩

theorem over : Rows.setStepsRow.holds Tryd.pinned (OpenSpec.ofChange Rows.setStepsSpec) :=
  OpenClaim.holds_of_wide 4 Tryd.f4 rfl rfl rfl rfl rfl rfl rfl ⟨rfl, rfl, rfl, rfl, rfl⟩ rfl rfl rfl rfl rfl (by kernel_rfl) Tryd.func4 (by kernel_rfl)
    (of_decide_eq_true (by kernel_rfl)) (by unfold Func.isWrapper; first | (rw [if_pos (by decide +kernel)]; kernel_rfl) | (rw [if_neg (by decide +kernel)]; exact ⟨rfl, rfl⟩))
    (fun os started H enc _ => lifted os started H enc)

theorem proved : Rows.SetStepsCardSaid :=
  Claim7.holds_tied_plain_at .later [] [.data] true (true, "d742ee33c5a6471d52597bf90b3a655e2c546c586dd35d545d176a5b4816720c") false
    over (fun _ h => by cases h) (by kernel_rfl) (fun _ h => by cases h) setSteps_row_tie rfl ⟨rfl, rfl⟩ (by kernel_rfl) rfl
    (fun f fn hf hfn => by
      obtain rfl : f = 4 := Option.some.inj ((show Tryd.prog.funcNamed Tryd.f4.name = some 4 by kernel_rfl).symm.trans hf) |>.symm
      obtain rfl : fn = Tryd.f4 := (Option.some.inj (Tryd.func4.symm.trans hfn)).symm
      exact ⟨by kernel_rfl, fun j t ht => by
        rw [Tryd.params4] at ht
        have hm : t ∈ [22, 40] := by simpa using Array.mem_of_getElem? ht
        have hall : ([22, 40].all fun u => !Tryd.prog.wantsStandIn u) = true := by kernel_rfl
        exact (show Tryd.prog.wantsStandIn t = false by simpa using List.all_eq_true.1 hall t hm)⟩)
    (by kernel_rfl)
#print axioms proved
end Go.Proofs.YtkoedgmfjpcocaaDoor.setSteps
