/- Two sets made of any two lists of numbers are one value just if they hold the same, just if each lies within the other; and a set is that of its own list. No condition; the table of math/bits is laid as its initialiser lays it (tied). -/
import Derived.Test.YtkoedgmfjpcocaaDoorRows
import Derived.WalkKit
import Derived.ProofKit
import Derived.OpenShut
import Derived.ShutString
import Derived.ChangeOld
import Derived.Below
import Derived.Test.YtkoedgmfjpcocaaDoorLaw3b
import Derived.Test.YtkoedgmfjpcocaaDoorOpen
import Derived.Deep.RegionHeld3
import Derived.Test.YtkoedgmfjpcocaaDoorCards
import Derived.Test.YtkoedgmfjpcocaaDoorTie
import Derived.Test.YtkoedgmfjpcocaaDoorTab
import Derived.SevenTiedAt
import Derived.LaidMore
import Derived.Stop.Joined
namespace Go.Proofs.YtkoedgmfjpcocaaDoor.setEquals
open Go.ChangeShapes Go.WideShapes Go.ChangeAt Go.RowKit
open Go.ChangeMaps (open_string shut_string)
set_option linter.unusedVariables false
set_option linter.unusedSimpArgs false

open Go.Proofs.YtkoedgmfjpcocaaDoor.Sets (listed door_met of_laid)
theorem own : ownKnob Tryd.prog.godebug = none := by kernel_rfl
theorem laidOut : laidOutB Tryd.prog = true := by kernel_rfl
open Mem Words
open Sets (Tab)

theorem openA0 {H : Type} {enc : TypeId × Value → H} {w : World} {a : Option Addr} {len cap : Nat} {d : DataW H} {p : List MemPlace} (h : DataW.Trod enc Tryd.prog w 0 (fun _ => true) true 22 (.slice a len cap) d p) : ∃ zs, IntsIn w a len cap zs :=
  open_ints_in Tryd.underlying22 Tryd.underlying3 (by kernel_rfl) h
theorem openA1 {H : Type} {enc : TypeId × Value → H} {w : World} {a : Option Addr} {len cap : Nat} {d : DataW H} {p : List MemPlace} (h : DataW.Trod enc Tryd.prog w 0 (fun _ => true) true 22 (.slice a len cap) d p) : ∃ zs, IntsIn w a len cap zs :=
  open_ints_in Tryd.underlying22 Tryd.underlying3 (by kernel_rfl) h

set_option maxHeartbeats 2000000 in
set_option maxRecDepth 100000 in
theorem walk (a0 : Option Addr) (len0 cap0 : Nat) (z0 : List Int) (a1 : Option Addr) (len1 cap1 : Nat) (z1 : List Int) (w : World) (w0 : IntsIn w a0 len0 cap0 z0) (w1 : IntsIn w a1 len1 cap1 z1) (hT : Tab w) :
    Calls Tryd.prog 5 #[.slice a0 len0 cap0, .slice a1 len1 cap1] w fun e w' => e = .returned (.bool true) ∧ Below w.heap.size w w' := by
  have hz0 := Nat.le_trans w0.le w0.max
  have hz1 := Nat.le_trans w1.le w1.max
  unfold maxLen at hz0 hz1
  have W0 := Lib.hid w0; have W1 := Lib.hid w1
  have HT := Lib.hid hT
  clear w0 w1 hT
  have CK := Lib.hid fun w hT => Sets.known w hT
  have CF0 := Lib.hid fun w => Sets.few a0 len0 cap0 w hz0
  have CF1 := Lib.hid fun w => Sets.few a1 len1 cap1 w hz1
  by_cases hl : len0 ≤ 300
  case neg =>
    have CF := Lib.hid fun w => (by have h := CF0.out w; rwa [decide_eq_false hl] at h : Calls Tryd.prog 8 #[.slice a0 len0 cap0] w fun e w' => e = .returned (.bool false) ∧ w = w')
    clear CF0 CF1 hl
    go_enter Tryd.func5, Tryd.ntmps5
    go_wp2_with fail
    refine (CF.out _).mono ?_
    rintro e w3 ⟨rfl, rfl⟩
    go_wp2_with fail
    refine (CK.out _ HT.out).mono ?_
    rintro e w4 ⟨rfl, hF⟩
    have HF := Lib.hid hF; clear hF
    go_wp2_with fail
    go_ret
    exact ⟨rfl, Sets.Foot.bel HF.out⟩
  have D0 := Lib.hid fun w => (by have h := CF0.out w; rwa [decide_eq_true hl] at h : Calls Tryd.prog 8 #[.slice a0 len0 cap0] w fun e w' => e = .returned (.bool true) ∧ w = w')
  by_cases hm : len1 ≤ 300
  case neg =>
    have CF := Lib.hid fun w => (by have h := CF1.out w; rwa [decide_eq_false hm] at h : Calls Tryd.prog 8 #[.slice a1 len1 cap1] w fun e w' => e = .returned (.bool false) ∧ w = w')
    clear CF0 CF1 hl hm
    go_enter Tryd.func5, Tryd.ntmps5
    go_wp2_with fail
    refine (D0.out _).mono ?_
    rintro e w3 ⟨rfl, rfl⟩
    go_wp2_with fail
    refine (CF.out _).mono ?_
    rintro e w3 ⟨rfl, rfl⟩
    go_wp2_with fail
    refine (CK.out _ HT.out).mono ?_
    rintro e w4 ⟨rfl, hF⟩
    have HF := Lib.hid hF; clear hF
    go_wp2_with fail
    go_ret
    exact ⟨rfl, Sets.Foot.bel HF.out⟩
  have D1 := Lib.hid fun w => (by have h := CF1.out w; rwa [decide_eq_true hm] at h : Calls Tryd.prog 8 #[.slice a1 len1 cap1] w fun e w' => e = .returned (.bool true) ∧ w = w')
  clear CF0 CF1
  have O0 := Lib.hid fun w hr => Sets.Of a0 len0 cap0 z0 w hr hz0 W0.out.fits
  have O1 := Lib.hid fun w hr => Sets.Of a1 len1 cap1 z1 w hr hz1 W1.out.fits
  have RW0 := Lib.hid W0.out.reads; have RW1 := Lib.hid W1.out.reads
  have Q0 := Lib.hid fun w hr => Refs.Of a0 len0 cap0 z0 w hr hz0
  have Q1 := Lib.hid fun w hr => Refs.Of a1 len1 cap1 z1 w hr hz1
  clear W0 W1
  generalize ofP z0 = x at *
  generalize ofP z1 = y at *
  -- what each call and each comparison will say
  have hpn : (Refs.nums (els x)).length ≤ 128 := by rw [Sets.nums_len]; exact els_le x
  have hqn : (Refs.nums (els y)).length ≤ 128 := by rw [Sets.nums_len]; exact els_le y
  have CL := Lib.hid fun w hT => Sets.ListOf x w hT
  have CO := Lib.hid fun (a : Option Addr) (c : Nat) (w : World) (hr : ReadsI w a (Refs.nums (els x)).length (Refs.nums (els x))) => Sets.Of a _ c (Refs.nums (els x)) w hr (by omega) (Sets.nums_fits x)
  have heq2 := Sets.eq_yes (p := x) (q := ofP (Refs.nums (els x))) fun j hj => (Sets.of_nums x j hj).symm
  generalize ofP (Refs.nums (els x)) = x2 at *
  obtain ⟨t, ht⟩ : ∃ t, t = decide (Agree x y) := ⟨_, rfl⟩
  have heq := Sets.eqSets x y
  rw [← ht] at heq
  have CS := Lib.hid fun (a b : Option Addr) (c d : Nat) (w : World) (hr : ReadsI w a (Refs.nums (els x)).length (Refs.nums (els x))) (hq : ReadsI w b (Refs.nums (els y)).length (Refs.nums (els y))) =>
    (by have h := Refs.Same' a b _ _ c d _ _ w hr hq (by omega) (by omega); rwa [decide_eq_decide.2 Sets.nums_inj, ← ht] at h :
      Calls Tryd.prog 12 #[.slice a (Refs.nums (els x)).length c, .slice b (Refs.nums (els y)).length d] w fun e w' => e = .returned (.bool t) ∧ Foot (fun _ => False) w w')
  have CW := Lib.hid fun w => Sets.Within x y w
  have CV := Lib.hid fun w => Sets.Within y x w
  have h1 : decide (Agree (andP x y) x) = true → decide (Agree (andP y x) y) = t := by
    intro h
    rw [ht, decide_eq_decide]
    have h := of_decide_eq_true h
    constructor
    · intro h2 j hj
      have e1 := h j hj; have e2 := h2 j hj
      simp only [andP] at e1 e2
      cases hx : x j <;> cases hy : y j <;> rw [hx, hy] at e1 e2 <;> simp_all
    · intro h2 j hj
      have e := h2 j hj
      simp only [andP]
      rw [e]; cases y j <;> rfl
  have h2 : decide (Agree (andP x y) x) = false → t = false := by
    intro h
    rw [ht, decide_eq_false_iff_not]
    intro h2
    have h3 := of_decide_eq_false h
    apply h3
    intro j hj
    have e := h2 j hj
    simp only [andP]
    rw [e]; cases y j <;> rfl
  clear ht
  generalize decide (Agree (andP x y) x) = u at *
  generalize decide (Agree (andP y x) y) = v at *
  generalize Refs.nums (els x) = X at *
  generalize Refs.nums (els y) = Y at *
  have G : ∀ (h : (u = true ∧ v = t) ∨ (u = false ∧ t = false)),
    Calls Tryd.prog 5 #[.slice a0 len0 cap0, .slice a1 len1 cap1] w fun e w' => e = .returned (.bool true) ∧ Below w.heap.size w w' := by
    clear h1 h2
    rintro (⟨rfl, rfl⟩ | ⟨rfl, rfl⟩)
    all_goals
      go_enter Tryd.func5, Tryd.ntmps5
      go_wp2_with fail
      refine (D0.out _).mono ?_
      rintro e w3 ⟨rfl, rfl⟩
      go_wp2_with fail
      refine (D1.out _).mono ?_
      rintro e w3 ⟨rfl, rfl⟩
      go_wp2_with fail
      refine (O0.out _ RW0.out).mono ?_
      rintro e w3 ⟨rfl, hF3⟩
      have RW1' := Lib.hid (RW1.out.keep hF3 fun _ _ => id)
      have F3 := Lib.hid hF3; clear hF3
      go_wp2_with fail
      refine (O1.out _ RW1'.out).mono ?_
      rintro e w4 ⟨rfl, hF4⟩
      have F4 := Lib.hid (F3.out.trans hF4 fun _ _ h => h); clear hF4 F3 RW1'
      go_wp2_with fail
      obtain ⟨w5, hw5⟩ : ∃ w5, (w4.alloc (.cells #[.int .u64 (lo x : Nat), .int .u64 (hi x : Nat)] 28)).alloc (.cells #[.int .u64 (lo y : Nat), .int .u64 (hi y : Nat)] 28) = w5 := ⟨_, rfl⟩
      rw [hw5]
      have hF5 : Foot (fun _ => False) w4 w5 := by rw [← hw5]; exact ((Foot.refl _ w4).alloc _).alloc _
      have F5 := Lib.hid (F4.out.trans hF5 fun _ _ h => h)
      have E5 : Hid (Sets.Env w w5 w4.heap.size (w4.heap.size + 1) x y) := Lib.hid ⟨F5.out, by rw [← hw5]; exact (At.new _ _ _).alloc _, by rw [← hw5]; exact Sets.At.newAt _ _ (by simp), HT.out.foot F5.out id⟩
      have E6 := Sets.Env.drew E5
      clear hw5 hF5 F4 F5 E5
      have c0 := E6.out.x.c0
      have c1 := E6.out.x.c1
      have c2 := E6.out.y.c0
      have c3 := E6.out.y.c1
      generalize w4.heap.size = bx at *
    · go_region_held3 (fun w' => w'.cell? ⟨bx, 0, none⟩ = some (.int .u64 (lo x : Nat)) ∧ w'.cell? ⟨bx, 1, none⟩ = some (.int .u64 (hi x : Nat)) ∧ w'.cell? ⟨bx + 1, 0, none⟩ = some (.int .u64 (lo y : Nat)) ∧ w'.cell? ⟨bx + 1, 1, none⟩ = some (.int .u64 (hi y : Nat)) ∧
                  Hid (Sets.Env w w' bx (bx + 1) x y))
                (exact Sets.Env.hold (by assumption))
                (first
                  | (go_at_call 11; (with_reducible refine (Q0.out _ (RW0.out.keep (Hid.out (by assumption : Hid (Sets.Env w _ bx (bx + 1) x y))).foot fun _ _ => id)).mono ?_); intro e wp hg; obtain ⟨ap, dp, rfl, hrp, hFp⟩ := hg.of; have Ep := Sets.Env.hstep hFp (by assumption : Hid (Sets.Env w _ bx (bx + 1) x y)))
                  | (go_at_call 11; (with_reducible refine (Q1.out _ (RW1.out.keep (Hid.out (by assumption : Hid (Sets.Env w _ bx (bx + 1) x y))).foot fun _ _ => id)).mono ?_); intro e wq hg; obtain ⟨aq, dq, rfl, hrq, hFq⟩ := hg.of; have Eq := Sets.Env.hstep hFq (by assumption : Hid (Sets.Env w _ bx (bx + 1) x y)))
                  | (go_at_call 12; (with_reducible refine (CS.out _ _ _ _ _ (hrp.keep hFq fun _ _ => id) hrq).mono ?_); rintro e ws ⟨rfl, hFs⟩; have Es := Sets.Env.hstep hFs (by assumption : Hid (Sets.Env w _ bx (bx + 1) x y)))
                  | (go_at_call 23; (with_reducible refine (CW.out _).mono ?_); rintro e wv ⟨rfl, hFv⟩; have Ev := Sets.Env.hstep hFv (by assumption : Hid (Sets.Env w _ bx (bx + 1) x y)))
                  | (go_at_call 23; (with_reducible refine (CV.out _).mono ?_); rintro e wu ⟨rfl, hFu⟩; have Eu := Sets.Env.hstep hFu (by assumption : Hid (Sets.Env w _ bx (bx + 1) x y)))
                  | (go_at_call 13; (with_reducible refine (CL.out _ (Hid.out (by assumption : Hid (Sets.Env w _ bx (bx + 1) x y))).tab).mono ?_); intro e wl hgl; obtain ⟨al, dl, rfl, hrl, hFl⟩ := hgl.of; have El := Sets.Env.hstep hFl (by assumption : Hid (Sets.Env w _ bx (bx + 1) x y)))
                  | (go_at_call 10; (with_reducible refine (CO.out _ _ _ hrl).mono ?_); rintro e wo ⟨rfl, hFo⟩; have Eo := Sets.Env.hstep hFo (by assumption : Hid (Sets.Env w _ bx (bx + 1) x y)))
                  | (go_at_call 9; (with_reducible refine (CK.out _ (Hid.out (by assumption : Hid (Sets.Env w _ bx (bx + 1) x y))).tab).mono ?_); rintro e wk ⟨rfl, hFk⟩; have Ek := Sets.Env.hstep hFk (by assumption : Hid (Sets.Env w _ bx (bx + 1) x y))))
      go_wp2_with fail
      go_ret
      exact ⟨rfl, Sets.Foot.bel Ek.out.foot⟩
    · refine wp_region_noPanic ?_
      refine wp_region_held_drew (S := (fun w' => w'.cell? ⟨bx, 0, none⟩ = some (.int .u64 (lo x : Nat)) ∧ w'.cell? ⟨bx, 1, none⟩ = some (.int .u64 (hi x : Nat)) ∧ w'.cell? ⟨bx + 1, 0, none⟩ = some (.int .u64 (lo y : Nat)) ∧ w'.cell? ⟨bx + 1, 1, none⟩ = some (.int .u64 (hi y : Nat)) ∧                    Hid (Sets.Env w w' bx (bx + 1) x y))) (by kernel_rfl) (Sets.Env.hold (by assumption)) (fun hHeld => ?_)
      refine wpAnyH_take (i := 0) (oi := _) (v := ?v0) rfl (by kernel_rfl) (by kernel_rfl) (by kernel_rfl) (fun _ _ _ h => h) (Or.inl ⟨by rfl, ?h0⟩) (by assumption) ?r0
      case h0 => (intro w hSw; (try dsimp only at hSw); go_simp; (try with_reducible rfl))
      try simp only [Act.put, List.getElem_toArray, List.getElem_cons_zero, List.getElem_cons_succ, List.setIfInBounds_toArray, List.set_cons_zero, List.set_cons_succ]
      refine wpAnyH_take (i := 1) (oi := _) (v := ?v1) rfl (by kernel_rfl) (by kernel_rfl) (by kernel_rfl) (fun _ _ _ h => h) (Or.inl ⟨by rfl, ?h1⟩) (by assumption) ?r1
      case h1 => (intro w hSw; (try dsimp only at hSw); go_simp; (try with_reducible rfl))
      try simp only [Act.put, List.getElem_toArray, List.getElem_cons_zero, List.getElem_cons_succ, List.setIfInBounds_toArray, List.set_cons_zero, List.set_cons_succ]
      refine wpAnyH_take (i := 2) (oi := _) (v := ?v2) rfl (by kernel_rfl) (by kernel_rfl) (by kernel_rfl) (fun _ _ _ h => h) (Or.inl ⟨by rfl, ?h2⟩) (by assumption) ?r2
      case h2 => (intro w hSw; (try dsimp only at hSw); go_simp; (try with_reducible rfl))
      try simp only [Act.put, List.getElem_toArray, List.getElem_cons_zero, List.getElem_cons_succ, List.setIfInBounds_toArray, List.set_cons_zero, List.set_cons_succ]
      refine wpAnyH_take (i := 3) (oi := _) (v := ?v3) rfl (by kernel_rfl) (by kernel_rfl) (by kernel_rfl) (fun _ _ _ h => h) (Or.inl ⟨by rfl, ?h3⟩) (by assumption) ?r3
      case h3 => (intro w hSw; (try dsimp only at hSw); go_simp; (try with_reducible rfl))
      try simp only [Act.put, List.getElem_toArray, List.getElem_cons_zero, List.getElem_cons_succ, List.setIfInBounds_toArray, List.set_cons_zero, List.set_cons_succ]
      refine wpAnyH_take (i := 5) (oi := _) (v := ?v5) rfl (by kernel_rfl) (by kernel_rfl) (by kernel_rfl) (fun _ _ _ h => h) (Or.inl ⟨by rfl, ?h5⟩) (by assumption) ?r5
      case h5 => (intro w hSw; (try dsimp only at hSw); go_simp; (try with_reducible rfl))
      try simp only [Act.put, List.getElem_toArray, List.getElem_cons_zero, List.getElem_cons_succ, List.setIfInBounds_toArray, List.set_cons_zero, List.set_cons_succ]
      refine wpAnyH_ready (rs := [4]) (by kernel_rfl) (by simp) ?_
      refine AllReadyH.cons (o := _) rfl (fun K hK => ?_) AllReadyH.nil
      go_simp
      (with_reducible refine (Q0.out _ (RW0.out.keep (Hid.out (by assumption : Hid (Sets.Env w _ bx (bx + 1) x y))).foot fun _ _ => id)).mono ?_); intro e wp hg; obtain ⟨ap, dp, rfl, hrp, hFp⟩ := hg.of; have Ep := Sets.Env.hstep hFp (by assumption : Hid (Sets.Env w _ bx (bx + 1) x y))
      refine hK.out _ _ (Sets.Env.hold (by assumption)) (fun hHeld => ?_)
      clear hK K
      try simp only [Act.put, List.getElem_toArray, List.getElem_cons_zero, List.getElem_cons_succ, List.setIfInBounds_toArray, List.set_cons_zero, List.set_cons_succ]
      refine wpAnyH_ready (rs := [6]) (by kernel_rfl) (by simp) ?_
      refine AllReadyH.cons (o := _) rfl (fun K hK => ?_) AllReadyH.nil
      go_simp
      (with_reducible refine (Q1.out _ (RW1.out.keep (Hid.out (by assumption : Hid (Sets.Env w _ bx (bx + 1) x y))).foot fun _ _ => id)).mono ?_); intro e wq hg; obtain ⟨aq, dq, rfl, hrq, hFq⟩ := hg.of; have Eq := Sets.Env.hstep hFq (by assumption : Hid (Sets.Env w _ bx (bx + 1) x y))
      refine hK.out _ _ (Sets.Env.hold (by assumption)) (fun hHeld => ?_)
      clear hK K
      try simp only [Act.put, List.getElem_toArray, List.getElem_cons_zero, List.getElem_cons_succ, List.setIfInBounds_toArray, List.set_cons_zero, List.set_cons_succ]
      refine wpAnyH_ready (rs := [7]) (by kernel_rfl) (by simp) ?_
      refine AllReadyH.cons (o := _) rfl (fun K hK => ?_) AllReadyH.nil
      go_simp
      (with_reducible refine (CS.out _ _ _ _ _ (hrp.keep hFq fun _ _ => id) hrq).mono ?_); rintro e ws ⟨rfl, hFs⟩; have Es := Sets.Env.hstep hFs (by assumption : Hid (Sets.Env w _ bx (bx + 1) x y))
      refine hK.out _ _ (Sets.Env.hold (by assumption)) (fun hHeld => ?_)
      clear hK K
      try simp only [Act.put, List.getElem_toArray, List.getElem_cons_zero, List.getElem_cons_succ, List.setIfInBounds_toArray, List.set_cons_zero, List.set_cons_succ]
      refine wpAnyH_take (i := 8) (oi := _) (v := ?v8) rfl (by kernel_rfl) (by kernel_rfl) (by kernel_rfl) (fun _ _ _ h => h) (Or.inl ⟨by rfl, ?h8⟩) (by assumption) ?r8
      case h8 => (intro w hSw; (try dsimp only at hSw); go_simp; (try with_reducible rfl))
      try simp only [Act.put, List.getElem_toArray, List.getElem_cons_zero, List.getElem_cons_succ, List.setIfInBounds_toArray, List.set_cons_zero, List.set_cons_succ]
      refine wpAnyH_take (i := 9) (oi := _) (v := ?v9) rfl (by kernel_rfl) (by kernel_rfl) (by kernel_rfl) (fun _ _ _ h => h) (Or.inl ⟨by rfl, ?h9⟩) (by assumption) ?r9
      case h9 => (intro w hSw; (try dsimp only at hSw); go_simp; (try with_reducible rfl))
      try simp only [Act.put, List.getElem_toArray, List.getElem_cons_zero, List.getElem_cons_succ, List.setIfInBounds_toArray, List.set_cons_zero, List.set_cons_succ]
      refine wpAnyH_take (i := 10) (oi := _) (v := ?v10) rfl (by kernel_rfl) (by kernel_rfl) (by kernel_rfl) (fun _ _ _ h => h) (Or.inl ⟨by rfl, ?h10⟩) (by assumption) ?r10
      case h10 => (intro w hSw; (try dsimp only at hSw); go_simp; (try with_reducible rfl))
      try simp only [Act.put, List.getElem_toArray, List.getElem_cons_zero, List.getElem_cons_succ, List.setIfInBounds_toArray, List.set_cons_zero, List.set_cons_succ]
      refine wpAnyH_take (i := 11) (oi := _) (v := ?v11) rfl (by kernel_rfl) (by kernel_rfl) (by kernel_rfl) (fun _ _ _ h => h) (Or.inl ⟨by rfl, ?h11⟩) (by assumption) ?r11
      case h11 => (intro w hSw; (try dsimp only at hSw); go_simp; (try with_reducible rfl))
      try simp only [Act.put, List.getElem_toArray, List.getElem_cons_zero, List.getElem_cons_succ, List.setIfInBounds_toArray, List.set_cons_zero, List.set_cons_succ]
      refine wpAnyH_take (i := 12) (oi := _) (v := ?v12) rfl (by kernel_rfl) (by kernel_rfl) (by kernel_rfl) (fun _ _ _ h => h) (Or.inl ⟨by rfl, ?h12⟩) (by assumption) ?r12
      case h12 => (intro w hSw; (try dsimp only at hSw); go_simp; (try with_reducible rfl))
      try simp only [Act.put, List.getElem_toArray, List.getElem_cons_zero, List.getElem_cons_succ, List.setIfInBounds_toArray, List.set_cons_zero, List.set_cons_succ]
      refine wpAnyH_take (i := 13) (oi := _) (v := ?v13) rfl (by kernel_rfl) (by kernel_rfl) (by kernel_rfl) (fun _ _ _ h => h) (Or.inl ⟨by rfl, ?h13⟩) (by assumption) ?r13
      case h13 => (intro w hSw; (try dsimp only at hSw); go_simp; (try with_reducible rfl))
      try simp only [Act.put, List.getElem_toArray, List.getElem_cons_zero, List.getElem_cons_succ, List.setIfInBounds_toArray, List.set_cons_zero, List.set_cons_succ]
      refine wpAnyH_take (i := 14) (oi := _) (v := ?v14) rfl (by kernel_rfl) (by kernel_rfl) (by kernel_rfl) (fun _ _ _ h => h) (Or.inl ⟨by rfl, ?h14⟩) (by assumption) ?r14
      case h14 => (intro w hSw; (try dsimp only at hSw); go_simp; (try with_reducible rfl))
      try simp only [Act.put, List.getElem_toArray, List.getElem_cons_zero, List.getElem_cons_succ, List.setIfInBounds_toArray, List.set_cons_zero, List.set_cons_succ]
      refine wpAnyH_ready (rs := [15]) (by kernel_rfl) (by simp) ?_
      refine AllReadyH.cons (o := _) rfl (fun K hK => ?_) AllReadyH.nil
      go_simp
      (with_reducible refine (CW.out _).mono ?_); rintro e wv ⟨rfl, hFv⟩; have Ev := Sets.Env.hstep hFv (by assumption : Hid (Sets.Env w _ bx (bx + 1) x y))
      refine hK.out _ _ (Sets.Env.hold (by assumption)) (fun hHeld => ?_)
      clear hK K
      try simp only [Act.put, List.getElem_toArray, List.getElem_cons_zero, List.getElem_cons_succ, List.setIfInBounds_toArray, List.set_cons_zero, List.set_cons_succ]
      refine wpAnyH_take (i := 16) (oi := _) (v := ?v16) rfl (by kernel_rfl) (by kernel_rfl) (by kernel_rfl) (fun _ _ _ h => h) (Or.inl ⟨by rfl, ?h16⟩) (by assumption) ?r16
      case h16 => (intro w hSw; (try dsimp only at hSw); go_simp; (try with_reducible rfl))
      try simp only [Act.put, List.getElem_toArray, List.getElem_cons_zero, List.getElem_cons_succ, List.setIfInBounds_toArray, List.set_cons_zero, List.set_cons_succ]
      refine wpAnyH_take (i := 17) (oi := _) (v := undef) rfl (by kernel_rfl) (by kernel_rfl) (by kernel_rfl) (fun _ _ _ h => h) (Or.inr ⟨by rfl, rfl⟩) (by assumption) ?_
      try simp only [Act.put, List.getElem_toArray, List.getElem_cons_zero, List.getElem_cons_succ, List.setIfInBounds_toArray, List.set_cons_zero, List.set_cons_succ]
      refine wpAnyH_take (i := 18) (oi := _) (v := undef) rfl (by kernel_rfl) (by kernel_rfl) (by kernel_rfl) (fun _ _ _ h => h) (Or.inr ⟨by rfl, rfl⟩) (by assumption) ?_
      try simp only [Act.put, List.getElem_toArray, List.getElem_cons_zero, List.getElem_cons_succ, List.setIfInBounds_toArray, List.set_cons_zero, List.set_cons_succ]
      refine wpAnyH_take (i := 19) (oi := _) (v := undef) rfl (by kernel_rfl) (by kernel_rfl) (by kernel_rfl) (fun _ _ _ h => h) (Or.inr ⟨by rfl, rfl⟩) (by assumption) ?_
      try simp only [Act.put, List.getElem_toArray, List.getElem_cons_zero, List.getElem_cons_succ, List.setIfInBounds_toArray, List.set_cons_zero, List.set_cons_succ]
      refine wpAnyH_take (i := 20) (oi := _) (v := ?v20) rfl (by kernel_rfl) (by kernel_rfl) (by kernel_rfl) (fun _ _ _ h => h) (Or.inl ⟨by rfl, ?h20⟩) (by assumption) ?r20
      case h20 => (intro w hSw; (try dsimp only at hSw); go_simp; (try with_reducible rfl))
      try simp only [Act.put, List.getElem_toArray, List.getElem_cons_zero, List.getElem_cons_succ, List.setIfInBounds_toArray, List.set_cons_zero, List.set_cons_succ]
      refine wpAnyH_take (i := 21) (oi := _) (v := ?v21) rfl (by kernel_rfl) (by kernel_rfl) (by kernel_rfl) (fun _ _ _ h => h) (Or.inl ⟨by rfl, ?h21⟩) (by assumption) ?r21
      case h21 => (intro w hSw; (try dsimp only at hSw); go_simp; (try with_reducible rfl))
      try simp only [Act.put, List.getElem_toArray, List.getElem_cons_zero, List.getElem_cons_succ, List.setIfInBounds_toArray, List.set_cons_zero, List.set_cons_succ]
      refine wpAnyH_take (i := 22) (oi := _) (v := ?v22) rfl (by kernel_rfl) (by kernel_rfl) (by kernel_rfl) (fun _ _ _ h => h) (Or.inl ⟨by rfl, ?h22⟩) (by assumption) ?r22
      case h22 => (intro w hSw; (try dsimp only at hSw); go_simp; (try with_reducible rfl))
      try simp only [Act.put, List.getElem_toArray, List.getElem_cons_zero, List.getElem_cons_succ, List.setIfInBounds_toArray, List.set_cons_zero, List.set_cons_succ]
      refine wpAnyH_take (i := 23) (oi := _) (v := ?v23) rfl (by kernel_rfl) (by kernel_rfl) (by kernel_rfl) (fun _ _ _ h => h) (Or.inl ⟨by rfl, ?h23⟩) (by assumption) ?r23
      case h23 => (intro w hSw; (try dsimp only at hSw); go_simp; (try with_reducible rfl))
      try simp only [Act.put, List.getElem_toArray, List.getElem_cons_zero, List.getElem_cons_succ, List.setIfInBounds_toArray, List.set_cons_zero, List.set_cons_succ]
      refine wpAnyH_take (i := 24) (oi := _) (v := ?v24) rfl (by kernel_rfl) (by kernel_rfl) (by kernel_rfl) (fun _ _ _ h => h) (Or.inl ⟨by rfl, ?h24⟩) (by assumption) ?r24
      case h24 => (intro w hSw; (try dsimp only at hSw); go_simp; (try with_reducible rfl))
      try simp only [Act.put, List.getElem_toArray, List.getElem_cons_zero, List.getElem_cons_succ, List.setIfInBounds_toArray, List.set_cons_zero, List.set_cons_succ]
      refine wpAnyH_take (i := 25) (oi := _) (v := ?v25) rfl (by kernel_rfl) (by kernel_rfl) (by kernel_rfl) (fun _ _ _ h => h) (Or.inl ⟨by rfl, ?h25⟩) (by assumption) ?r25
      case h25 => (intro w hSw; (try dsimp only at hSw); go_simp; (try with_reducible rfl))
      try simp only [Act.put, List.getElem_toArray, List.getElem_cons_zero, List.getElem_cons_succ, List.setIfInBounds_toArray, List.set_cons_zero, List.set_cons_succ]
      refine wpAnyH_ready (rs := [26]) (by kernel_rfl) (by simp) ?_
      refine AllReadyH.cons (o := _) rfl (fun K hK => ?_) AllReadyH.nil
      go_simp
      (with_reducible refine (CL.out _ (Hid.out (by assumption : Hid (Sets.Env w _ bx (bx + 1) x y))).tab).mono ?_); intro e wl hgl; obtain ⟨al, dl, rfl, hrl, hFl⟩ := hgl.of; have El := Sets.Env.hstep hFl (by assumption : Hid (Sets.Env w _ bx (bx + 1) x y))
      refine hK.out _ _ (Sets.Env.hold (by assumption)) (fun hHeld => ?_)
      clear hK K
      try simp only [Act.put, List.getElem_toArray, List.getElem_cons_zero, List.getElem_cons_succ, List.setIfInBounds_toArray, List.set_cons_zero, List.set_cons_succ]
      refine wpAnyH_ready (rs := [27]) (by kernel_rfl) (by simp) ?_
      refine AllReadyH.cons (o := _) rfl (fun K hK => ?_) AllReadyH.nil
      go_simp
      (with_reducible refine (CO.out _ _ _ hrl).mono ?_); rintro e wo ⟨rfl, hFo⟩; have Eo := Sets.Env.hstep hFo (by assumption : Hid (Sets.Env w _ bx (bx + 1) x y))
      refine hK.out _ _ (Sets.Env.hold (by assumption)) (fun hHeld => ?_)
      clear hK K
      try simp only [Act.put, List.getElem_toArray, List.getElem_cons_zero, List.getElem_cons_succ, List.setIfInBounds_toArray, List.set_cons_zero, List.set_cons_succ]
      refine wpAnyH_take (i := 28) (oi := _) (v := ?v28) rfl (by kernel_rfl) (by kernel_rfl) (by kernel_rfl) (fun _ _ _ h => h) (Or.inl ⟨by rfl, ?h28⟩) (by assumption) ?r28
      case h28 => (intro w hSw; (try dsimp only at hSw); go_simp; (try with_reducible rfl))
      try simp only [Act.put, List.getElem_toArray, List.getElem_cons_zero, List.getElem_cons_succ, List.setIfInBounds_toArray, List.set_cons_zero, List.set_cons_succ]
      refine wpAnyH_take (i := 29) (oi := _) (v := ?v29) rfl (by kernel_rfl) (by kernel_rfl) (by kernel_rfl) (fun _ _ _ h => h) (Or.inl ⟨by rfl, ?h29⟩) (by assumption) ?r29
      case h29 => (intro w hSw; (try dsimp only at hSw); go_simp; (try with_reducible rfl))
      try simp only [Act.put, List.getElem_toArray, List.getElem_cons_zero, List.getElem_cons_succ, List.setIfInBounds_toArray, List.set_cons_zero, List.set_cons_succ]
      refine wpAnyH_take (i := 30) (oi := _) (v := ?v30) rfl (by kernel_rfl) (by kernel_rfl) (by kernel_rfl) (fun _ _ _ h => h) (Or.inl ⟨by rfl, ?h30⟩) (by assumption) ?r30
      case h30 => (intro w hSw; (try dsimp only at hSw); go_simp; (try with_reducible rfl))
      try simp only [Act.put, List.getElem_toArray, List.getElem_cons_zero, List.getElem_cons_succ, List.setIfInBounds_toArray, List.set_cons_zero, List.set_cons_succ]
      refine wpAnyH_ready (rs := [31]) (by kernel_rfl) (by simp) ?_
      refine AllReadyH.cons (o := _) rfl (fun K hK => ?_) AllReadyH.nil
      go_simp
      (with_reducible refine (CK.out _ (Hid.out (by assumption : Hid (Sets.Env w _ bx (bx + 1) x y))).tab).mono ?_); rintro e wk ⟨rfl, hFk⟩; have Ek := Sets.Env.hstep hFk (by assumption : Hid (Sets.Env w _ bx (bx + 1) x y))
      refine hK.out _ _ (Sets.Env.hold (by assumption)) (fun hHeld => ?_)
      clear hK K
      try simp only [Act.put, List.getElem_toArray, List.getElem_cons_zero, List.getElem_cons_succ, List.setIfInBounds_toArray, List.set_cons_zero, List.set_cons_succ]
      refine wpAnyH_take (i := 32) (oi := _) (v := ?v32) rfl (by kernel_rfl) (by kernel_rfl) (by kernel_rfl) (fun _ _ _ h => h) (Or.inl ⟨by rfl, ?h32⟩) (by assumption) ?r32
      case h32 => (intro w hSw; (try dsimp only at hSw); go_simp; (try with_reducible rfl))
      try simp only [Act.put, List.getElem_toArray, List.getElem_cons_zero, List.getElem_cons_succ, List.setIfInBounds_toArray, List.set_cons_zero, List.set_cons_succ]
      refine wpAnyH_take (i := 33) (oi := _) (v := ?v33) rfl (by kernel_rfl) (by kernel_rfl) (by kernel_rfl) (fun _ _ _ h => h) (Or.inl ⟨by rfl, ?h33⟩) (by assumption) ?r33
      case h33 => (intro w hSw; (try dsimp only at hSw); go_simp; (try with_reducible rfl))
      try simp only [Act.put, List.getElem_toArray, List.getElem_cons_zero, List.getElem_cons_succ, List.setIfInBounds_toArray, List.set_cons_zero, List.set_cons_succ]
      refine wpAnyH_done (by kernel_rfl) ?_ _
      refine NoPanic.normal ?_
      go_wp2_with fail
      go_ret
      exact ⟨rfl, Sets.Foot.bel Ek.out.foot⟩
  cases u
  · exact G (.inr ⟨rfl, h2 rfl⟩)
  · exact G (.inl ⟨rfl, h1 rfl⟩)

set_option maxRecDepth 100000 in
theorem lifted (os : Os) (started : os.Started) (H : Type) (enc : TypeId × Value → H) :
    ReturnsInHanded {} Tryd.checked os 5 .any (fun w args => (Rows.setEqualsSpec.pre enc Tryd.prog Tryd.f5 [] false w args ∧ laidMetH Tryd.prog listed w) ∧ sizedMet enc Tryd.prog Tryd.f5 (OpenSpec.ofChange Rows.setEqualsSpec) false w args) (Rows.setEqualsSpec.post enc Tryd.prog Tryd.f5 false true false false) := by
  refine returnsInHanded_of_change_and (C := Tryd.checked) (X := fun w _ => laidMetH Tryd.prog listed w) (fun _ _ _ hh h => h.of_heap hh) own started (by kernel_rfl) Tryd.func5
    (ChangeSpec.witness_shaped (enc := enc) (C := Tryd.checked) (os := os) (X := fun w _ => laidMetH Tryd.prog listed w) false (World.doorLaid Tryd.prog 400 os) #[.slice none 0 0, .slice none 0 0] 8 rfl (World.shaped_of_RefB (by kernel_rfl) (by kernel_rfl)) (by kernel_rfl) (by kernel_rfl) (by kernel_rfl) (door_met os _)) ?_
  intro W base args ds gs before hval0 hW _ _ hL _
  have tab := of_laid hL
  have hval : ∀ (j : Nat) t v, Tryd.f5.params[j]? = some t → args[j]? = some v → Value.okWide Tryd.prog W .any base t v := hval0
  have hW' := hW
  obtain ⟨p, q, hA0, hV, rfl, hfz, hnd⟩ := hW
  have hA : DataW.TrodAll enc Tryd.prog W 0 (fun _ => true) true Tryd.f5.params.toList args.toList ds p := hA0
  rw [Tryd.params5] at hA hval
  obtain ⟨v0, vs0, d0, ds0, p0, q0, hargs, rfl, rfl, h0, r0⟩ := trodAll_cons hA
  obtain ⟨v1, vs1, d1, ds1, p1, q1, rfl, rfl, rfl, h1, r1⟩ := trodAll_cons r0
  obtain ⟨rfl, rfl, rfl⟩ := trodAll_nil r1
  obtain rfl : args = #[v0, v1] := by cases args; simp_all
  obtain ⟨rfl, rfl⟩ := trodVars_none hV
  obtain ⟨a0, len0, cap0, rfl⟩ := okWide_slice Tryd.underlying22 (hval 0 22 v0 rfl rfl)
  have k0 := h0
  have lt0 : ∀ x ∈ p0, x.block < W.heap.size := by obtain ⟨m, hm⟩ := k0; exact DataW.trod_lt m _ _ _ hm
  obtain ⟨z0, w0⟩ := openA0 h0
  obtain ⟨a1, len1, cap1, rfl⟩ := okWide_slice Tryd.underlying22 (hval 1 22 v1 rfl rfl)
  have k1 := h1
  have lt1 : ∀ x ∈ p1, x.block < W.heap.size := by obtain ⟨m, hm⟩ := k1; exact DataW.trod_lt m _ _ _ hm
  obtain ⟨z1, w1⟩ := openA1 h1
  clear hA0 hval0
  refine (walk a0 len0 cap0 z0 a1 len1 cap1 z1 W w0 w1 tab).mono fun e W' ⟨he, bel⟩ => ?_
  subst he
  exact ⟨_, rfl, _, _, _, [], _, [], hW', trodAll_mk1 (shut_bool Tryd.underlying4 _), (trodAll_cons_mk (Below.trod laidOut (by kernel_rfl) (of_decide_eq_true (by kernel_rfl)) k0 bel lt0) (trodAll_cons_mk (Below.trod laidOut (by kernel_rfl) (of_decide_eq_true (by kernel_rfl)) k1 bel lt1) trodAll_mk0)), rfl, bel.frame _, fun h => by cases h⟩

theorem over : Rows.setEqualsRow.holds Tryd.pinned (OpenSpec.ofChange Rows.setEqualsSpec) :=
  OpenClaim.holds_of_wide 5 Tryd.f5 rfl rfl rfl rfl rfl rfl rfl ⟨rfl, rfl, rfl, rfl, rfl⟩ rfl rfl rfl rfl rfl (by kernel_rfl) Tryd.func5 (by kernel_rfl)
    (of_decide_eq_true (by kernel_rfl)) (by unfold Func.isWrapper; first | (rw [if_pos (by decide +kernel)]; kernel_rfl) | (rw [if_neg (by decide +kernel)]; exact ⟨rfl, rfl⟩))
    (fun os started H enc _ => lifted os started H enc)

theorem proved : Rows.SetEqualsCardSaid :=
  Claim7.holds_tied_plain_at .later [] [.data] true (true, "d742ee33c5a6471d52597bf90b3a655e2c546c586dd35d545d176a5b4816720c") false
    over (fun _ h => by cases h) (by kernel_rfl) (fun _ h => by cases h) setEquals_row_tie rfl ⟨rfl, rfl⟩ (by kernel_rfl) rfl
    (fun f fn hf hfn => by
      obtain rfl : f = 5 := Option.some.inj ((show Tryd.prog.funcNamed Tryd.f5.name = some 5 by kernel_rfl).symm.trans hf) |>.symm
      obtain rfl : fn = Tryd.f5 := (Option.some.inj (Tryd.func5.symm.trans hfn)).symm
      exact ⟨by kernel_rfl, fun j t ht => by
        rw [Tryd.params5] at ht
        have hm : t ∈ [22, 22] := by simpa using Array.mem_of_getElem? ht
        have hall : ([22, 22].all fun u => !Tryd.prog.wantsStandIn u) = true := by kernel_rfl
        exact (show Tryd.prog.wantsStandIn t = false by simpa using List.all_eq_true.1 hall t hm)⟩)
    (by kernel_rfl)
#print axioms proved
end Go.Proofs.YtkoedgmfjpcocaaDoor.setEquals
