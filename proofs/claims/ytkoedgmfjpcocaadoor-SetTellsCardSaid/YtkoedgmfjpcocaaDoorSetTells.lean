/- For any two lists of numbers and any number, union, intersection, difference, size, membership and inclusion of the sets agree with the reference. No condition; the table of math/bits is laid as its initialiser lays it (tied). -/
import Derived.Test.YtkoedgmfjpcocaaDoorRows
import Derived.WalkKit
import Derived.ProofKit
import Derived.OpenShut
import Derived.ShutString
import Derived.ChangeOld
import Derived.Below
import Derived.Test.YtkoedgmfjpcocaaDoorLaw3
import Derived.Test.YtkoedgmfjpcocaaDoorOpen
import Derived.Test.YtkoedgmfjpcocaaDoorCards
import Derived.Test.YtkoedgmfjpcocaaDoorTie
import Derived.Test.YtkoedgmfjpcocaaDoorTab
import Derived.SevenTiedAt
import Derived.LaidMore
import Derived.Stop.Joined
namespace Go.Proofs.YtkoedgmfjpcocaaDoor.setTells
open Go.ChangeShapes Go.WideShapes Go.ChangeAt Go.RowKit
open Go.ChangeMaps (open_string shut_string)
set_option linter.unusedVariables false
set_option linter.unusedSimpArgs false

open Go.Proofs.YtkoedgmfjpcocaaDoor.Sets (listed door_met of_laid)
theorem own : ownKnob Tryd.prog.godebug = none := by kernel_rfl
theorem laidOut : laidOutB Tryd.prog = true := by kernel_rfl
open Mem Words
open Sets (Tab)

theorem openA0 {H : Type} {enc : TypeId × Value → H} {w : World} {a : Option Addr} {len cap : Nat} {d : DataW H} {p : List MemPlace} (h : DataW.Trod enc Tryd.prog w 0 (fun _ => true) true 22 (.slice a len cap) d p) : ∃ zs, IntsIn w a len cap zs :=
  open_ints_in Tryd.underlying22 Tryd.underlying3 (by kernel_rfl) h
theorem openA1 {H : Type} {enc : TypeId × Value → H} {w : World} {a : Option Addr} {len cap : Nat} {d : DataW H} {p : List MemPlace} (h : DataW.Trod enc Tryd.prog w 0 (fun _ => true) true 22 (.slice a len cap) d p) : ∃ zs, IntsIn w a len cap zs :=
  open_ints_in Tryd.underlying22 Tryd.underlying3 (by kernel_rfl) h

set_option maxHeartbeats 2000000 in
set_option maxRecDepth 100000 in
theorem walk (a0 : Option Addr) (len0 cap0 : Nat) (z0 : List Int) (a1 : Option Addr) (len1 cap1 : Nat) (z1 : List Int) (a2 : Int) (w : World) (w0 : IntsIn w a0 len0 cap0 z0) (w1 : IntsIn w a1 len1 cap1 z1) (w2 : (Lit.int .i64 a2).wf = true) (hT : Tab w) :
    Calls Tryd.prog 3 #[.slice a0 len0 cap0, .slice a1 len1 cap1, .int .i64 a2] w fun e w' => e = .returned (.bool true) ∧ Below w.heap.size w w' := by
  have h2 := wf_i64 w2
  clear w2
  have hz0 := Nat.le_trans w0.le w0.max
  have hz1 := Nat.le_trans w1.le w1.max
  unfold maxLen at hz0 hz1
  have W0 := Lib.hid w0; have W1 := Lib.hid w1
  have HT := Lib.hid hT
  clear w0 w1 hT
  have CK := Lib.hid fun w hT => Sets.known w hT
  have CF0 := Lib.hid fun w => Sets.few a0 len0 cap0 w hz0
  have CF1 := Lib.hid fun w => Sets.few a1 len1 cap1 w hz1
  by_cases hl : len0 ≤ 300
  case neg =>
    have CF := Lib.hid fun w => (by have h := CF0.out w; rwa [decide_eq_false hl] at h : Calls Tryd.prog 8 #[.slice a0 len0 cap0] w fun e w' => e = .returned (.bool false) ∧ w = w')
    clear CF0 CF1 hl
    go_enter Tryd.func3, Tryd.ntmps3
    go_wp2_with fail
    refine (CF.out _).mono ?_
    rintro e w3 ⟨rfl, rfl⟩
    go_wp2_with fail
    refine (CK.out _ HT.out).mono ?_
    rintro e w4 ⟨rfl, hF⟩
    have HF := Lib.hid hF; clear hF
    go_wp2_with fail
    go_ret
    exact ⟨rfl, Sets.Foot.bel HF.out⟩
  have D0 := Lib.hid fun w => (by have h := CF0.out w; rwa [decide_eq_true hl] at h : Calls Tryd.prog 8 #[.slice a0 len0 cap0] w fun e w' => e = .returned (.bool true) ∧ w = w')
  by_cases hm : len1 ≤ 300
  case neg =>
    have CF := Lib.hid fun w => (by have h := CF1.out w; rwa [decide_eq_false hm] at h : Calls Tryd.prog 8 #[.slice a1 len1 cap1] w fun e w' => e = .returned (.bool false) ∧ w = w')
    clear CF0 CF1 hl hm
    go_enter Tryd.func3, Tryd.ntmps3
    go_wp2_with fail
    refine (D0.out _).mono ?_
    rintro e w3 ⟨rfl, rfl⟩
    go_wp2_with fail
    refine (CF.out _).mono ?_
    rintro e w3 ⟨rfl, rfl⟩
    go_wp2_with fail
    refine (CK.out _ HT.out).mono ?_
    rintro e w4 ⟨rfl, hF⟩
    have HF := Lib.hid hF; clear hF
    go_wp2_with fail
    go_ret
    exact ⟨rfl, Sets.Foot.bel HF.out⟩
  have D1 := Lib.hid fun w => (by have h := CF1.out w; rwa [decide_eq_true hm] at h : Calls Tryd.prog 8 #[.slice a1 len1 cap1] w fun e w' => e = .returned (.bool true) ∧ w = w')
  clear CF0 CF1
  have O0 := Lib.hid fun w hr => Sets.Of a0 len0 cap0 z0 w hr hz0 W0.out.fits
  have O1 := Lib.hid fun w hr => Sets.Of a1 len1 cap1 z1 w hr hz1 W1.out.fits
  have Q0 := Lib.hid fun w hr => Refs.Of a0 len0 cap0 z0 w hr hz0
  have Q1 := Lib.hid fun w hr => Refs.Of a1 len1 cap1 z1 w hr hz1
  have RW0 := Lib.hid W0.out.reads; have RW1 := Lib.hid W1.out.reads
  clear W0 W1
  generalize ofP z0 = x at *
  generalize ofP z1 = y at *
  -- what each call will say
  have CL := Lib.hid fun p w hT => Sets.ListOf p w hT
  have CLX := Lib.hid fun w hT => Sets.ListOf x w hT
  have CLen := Lib.hid fun w => (by have h := Sets.Len x w; rwa [← Sets.nums_len (els x)] at h : Calls Tryd.prog 14 #[.agg #[.int .u64 (lo x : Nat), .int .u64 (hi x : Nat)]] w fun e w' => e = .returned (.int .i64 ((Refs.nums (els x)).length : Nat)) ∧ Foot (fun _ => False) w w')
  have hpn : (Refs.nums (els x)).length ≤ 128 := by rw [Sets.nums_len]; exact els_le x
  have hqn : (Refs.nums (els y)).length ≤ 128 := by rw [Sets.nums_len]; exact els_le y
  have hrn : (Refs.nums (els (notP x y))).length ≤ 128 := by rw [Sets.nums_len]; exact els_le _
  have hsn : (Refs.nums (els (orP x y))).length ≤ 128 := by rw [Sets.nums_len]; exact els_le _
  have han : (Refs.nums (els (andP x y))).length ≤ 128 := by rw [Sets.nums_len]; exact els_le _
  obtain ⟨b, hb⟩ : ∃ b, b = Sets.hasP x a2 := ⟨_, rfl⟩
  have CH := Lib.hid fun w => (by have h := Sets.Has x a2 w h2; rwa [← hb] at h : Calls Tryd.prog 15 #[.agg #[.int .u64 (lo x : Nat), .int .u64 (hi x : Nat)], .int .i64 a2] w fun e w' => e = .returned (.bool b) ∧ Foot (fun _ => False) w w')
  have CQH := Lib.hid fun (a : Option Addr) (c : Nat) (w : World) (hr : ReadsI w a (Refs.nums (els x)).length (Refs.nums (els x))) => (by have h := Refs.Has a _ c (Refs.nums (els x)) a2 w hr (by omega); rwa [Sets.has_eq, ← hb] at h : Calls Tryd.prog 16 #[.slice a (Refs.nums (els x)).length c, .int .i64 a2] w fun e w' => e = .returned (.bool b) ∧ w = w')
  clear hb
  have COr := Lib.hid fun w => Sets.Or x y w
  have CAnd := Lib.hid fun w => Sets.And x y w
  have CNot := Lib.hid fun w => Sets.Not x y w
  have CQOr := Lib.hid fun (a b : Option Addr) (c d : Nat) (w : World) (hr : ReadsI w a (Refs.nums (els x)).length (Refs.nums (els x))) (hq : ReadsI w b (Refs.nums (els y)).length (Refs.nums (els y))) => (by have h := Refs.Or a b _ _ c d (Refs.nums (els x)) (Refs.nums (els y)) w hr hq (by omega) (by omega); rwa [els_congr (Sets.or_eq x y)] at h :
    Calls Tryd.prog 18 #[.slice a (Refs.nums (els x)).length c, .slice b (Refs.nums (els y)).length d] w (Refs.Gives w (Refs.nums (els (orP x y)))))
  have CQAnd := Lib.hid fun (a b : Option Addr) (c d : Nat) (w : World) (hr : ReadsI w a (Refs.nums (els x)).length (Refs.nums (els x))) (hq : ReadsI w b (Refs.nums (els y)).length (Refs.nums (els y))) => (by have h := Refs.And a b _ _ c d (Refs.nums (els x)) (Refs.nums (els y)) w hr hq (by omega) (by omega); rwa [Sets.not_eq, Sets.and_eq] at h :
    Calls Tryd.prog 20 #[.slice a (Refs.nums (els x)).length c, .slice b (Refs.nums (els y)).length d] w (Refs.Gives w (Refs.nums (els (andP x y)))))
  have CQNot := Lib.hid fun (a b : Option Addr) (c d : Nat) (w : World) (hr : ReadsI w a (Refs.nums (els x)).length (Refs.nums (els x))) (hq : ReadsI w b (Refs.nums (els y)).length (Refs.nums (els y))) => (by have h := Refs.Not a b _ _ c d (Refs.nums (els x)) (Refs.nums (els y)) w hr hq (by omega) (by omega); rwa [Sets.not_eq] at h :
    Calls Tryd.prog 22 #[.slice a (Refs.nums (els x)).length c, .slice b (Refs.nums (els y)).length d] w (Refs.Gives w (Refs.nums (els (notP x y)))))
  obtain ⟨t, ht⟩ : ∃ t, t = decide ((Refs.nums (els (notP x y))).length = 0) := ⟨_, rfl⟩
  have CW := Lib.hid fun w => (by have h := Sets.Within x y w; rwa [Sets.within_eq, ← ht] at h : Calls Tryd.prog 23 #[.agg #[.int .u64 (lo x : Nat), .int .u64 (hi x : Nat)], .agg #[.int .u64 (lo y : Nat), .int .u64 (hi y : Nat)]] w fun e w' => e = .returned (.bool t) ∧ Foot (fun _ => False) w w')
  generalize Refs.nums (els x) = X at *
  generalize Refs.nums (els y) = Y at *
  obtain ⟨N, hN⟩ : ∃ N, N = Refs.nums (els (notP x y)) := ⟨_, rfl⟩
  obtain ⟨O, hO⟩ : ∃ O, O = Refs.nums (els (orP x y)) := ⟨_, rfl⟩
  obtain ⟨A, hA⟩ : ∃ A, A = Refs.nums (els (andP x y)) := ⟨_, rfl⟩
  rw [← hN] at ht hrn CQNot
  rw [← hO] at hsn CQOr
  rw [← hA] at han CQAnd
  have CLN := Lib.hid fun w hT => (by have h := CL.out (notP x y) w hT; rwa [← hN] at h : Calls Tryd.prog 13 #[.agg #[.int .u64 (lo (notP x y) : Nat), .int .u64 (hi (notP x y) : Nat)]] w (Refs.Gives w N))
  have CLO := Lib.hid fun w hT => (by have h := CL.out (orP x y) w hT; rwa [← hO] at h : Calls Tryd.prog 13 #[.agg #[.int .u64 (lo (orP x y) : Nat), .int .u64 (hi (orP x y) : Nat)]] w (Refs.Gives w O))
  have CLA := Lib.hid fun w hT => (by have h := CL.out (andP x y) w hT; rwa [← hA] at h : Calls Tryd.prog 13 #[.agg #[.int .u64 (lo (andP x y) : Nat), .int .u64 (hi (andP x y) : Nat)]] w (Refs.Gives w A))
  have hteq : (((N.length : Nat) : Int) == 0) = t := by rw [ht]; rw [Bool.eq_iff_iff]; simp
  have hteq2 : decide (((N.length : Nat) : Int) = 0) = t := by rw [ht, decide_eq_decide]; omega
  clear hN hO hA ht
  go_enter Tryd.func3, Tryd.ntmps3
  go_wp2_with fail
  refine (D0.out _).mono ?_
  rintro e w3 ⟨rfl, rfl⟩
  go_wp2_with fail
  refine (D1.out _).mono ?_
  rintro e w3 ⟨rfl, rfl⟩
  go_wp2_with fail
  refine (O0.out _ RW0.out).mono ?_
  rintro e w3 ⟨rfl, hF3⟩
  have RW0 := Lib.hid (RW0.out.keep hF3 fun _ _ => id); have RW1 := Lib.hid (RW1.out.keep hF3 fun _ _ => id)
  have F3 := Lib.hid hF3; clear hF3
  go_wp2_with fail
  refine (O1.out _ RW1.out).mono ?_
  rintro e w4 ⟨rfl, hF4⟩
  have RW0 := Lib.hid (RW0.out.keep hF4 fun _ _ => id); have RW1 := Lib.hid (RW1.out.keep hF4 fun _ _ => id)
  have F4 := Lib.hid (F3.out.trans hF4 fun _ _ h => h); clear hF4 F3
  go_wp2_with fail
  obtain ⟨w5, hw5⟩ : ∃ w5, (w4.alloc (.cells #[.int .u64 (lo x : Nat), .int .u64 (hi x : Nat)] 28)).alloc (.cells #[.int .u64 (lo y : Nat), .int .u64 (hi y : Nat)] 28) = w5 := ⟨_, rfl⟩
  rw [hw5]
  have hF5 : Foot (fun _ => False) w4 w5 := by rw [← hw5]; exact ((Foot.refl _ w4).alloc _).alloc _
  have F5 := Lib.hid (F4.out.trans hF5 fun _ _ h => h)
  have E5 : Hid (Sets.Env w w5 w4.heap.size (w4.heap.size + 1) x y) := Lib.hid ⟨F5.out, by rw [← hw5]; exact (At.new _ _ _).alloc _, by rw [← hw5]; exact Sets.At.newAt _ _ (by simp), HT.out.foot F5.out id⟩
  have RW0 := Lib.hid (RW0.out.keep hF5 fun _ _ => id); have RW1 := Lib.hid (RW1.out.keep hF5 fun _ _ => id)
  clear hw5 hF5 F4 F5
  have c0 := E5.out.x.c0
  have c1 := E5.out.x.c1
  have c2 := E5.out.y.c0
  have c3 := E5.out.y.c1
  go_wp2_with fail
  refine (Q0.out _ RW0.out).mono ?_
  intro e w11 hg
  obtain ⟨a11, d11, rfl, hr, hF⟩ := hg.of
  have R11 := Lib.hid hr; clear hr hg
  have RW1 := Lib.hid (RW1.out.keep hF fun _ _ => id)
  clear c0 c1 c2 c3
  have E11 := Lib.hid (E5.out.step hF)
  clear hF E5
  have c0 := E11.out.x.c0
  have c1 := E11.out.x.c1
  have c2 := E11.out.y.c0
  have c3 := E11.out.y.c1
  go_wp2_with fail
  refine (Q1.out _ RW1.out).mono ?_
  intro e w12 hg
  obtain ⟨a12, d12, rfl, hr, hF⟩ := hg.of
  have R12 := Lib.hid hr; clear hr hg
  have R11 := Lib.hid (R11.out.keep hF fun _ _ => id)
  clear c0 c1 c2 c3
  have E12 := Lib.hid (E11.out.step hF)
  clear hF E11
  have c0 := E12.out.x.c0
  have c1 := E12.out.x.c1
  have c2 := E12.out.y.c0
  have c3 := E12.out.y.c1
  have G := Lib.hid (⟨E12.out, R11.out, R12.out⟩ : Sets.Env2 w w12 w4.heap.size (w4.heap.size + 1) x y a11 a12 _ _ X Y)
  clear E12 R11 R12
  go_wp2_with fail
  refine (CLX.out _ G.out.env.tab).mono ?_
  intro e w13 hg
  obtain ⟨a13, d13, rfl, hr, hF⟩ := hg.of
  have R13 := Lib.hid hr; clear hr hg
  clear c0 c1 c2 c3
  have E13 := Lib.hid (G.out.step hF)
  clear hF G
  have c0 := E13.out.env.x.c0
  have c1 := E13.out.env.x.c1
  have c2 := E13.out.env.y.c0
  have c3 := E13.out.env.y.c1
  go_wp2_with fail
  refine (Sets.Same_yes _ _ _ _ _ _ _ _ R13.out E13.out.p (by omega) (by omega)).mono ?_
  rintro e w14 ⟨rfl, hF⟩
  clear c0 c1 c2 c3
  have E14 := Lib.hid (E13.out.step hF)
  clear hF E13
  have c0 := E14.out.env.x.c0
  have c1 := E14.out.env.x.c1
  have c2 := E14.out.env.y.c0
  have c3 := E14.out.env.y.c1
  go_wp2_with fail
  refine (CLen.out _).mono ?_
  rintro e w15 ⟨rfl, hF⟩
  clear c0 c1 c2 c3
  have E15 := Lib.hid (E14.out.step hF)
  clear hF E14
  have c0 := E15.out.env.x.c0
  have c1 := E15.out.env.x.c1
  have c2 := E15.out.env.y.c0
  have c3 := E15.out.env.y.c1
  go_wp2_with fail
  refine (CH.out _).mono ?_
  rintro e w16 ⟨rfl, hF⟩
  clear c0 c1 c2 c3
  have E16 := Lib.hid (E15.out.step hF)
  clear hF E15
  have c0 := E16.out.env.x.c0
  have c1 := E16.out.env.x.c1
  have c2 := E16.out.env.y.c0
  have c3 := E16.out.env.y.c1
  go_wp2_with fail
  refine (CQH.out _ _ _ E16.out.p).mono ?_
  rintro e wq ⟨rfl, rfl⟩
  go_wp2_with fail
  refine (COr.out _).mono ?_
  rintro e w17 ⟨rfl, hF⟩
  clear c0 c1 c2 c3
  have E17 := Lib.hid (E16.out.step hF)
  clear hF E16
  have c0 := E17.out.env.x.c0
  have c1 := E17.out.env.x.c1
  have c2 := E17.out.env.y.c0
  have c3 := E17.out.env.y.c1
  go_wp2_with fail
  refine (CLO.out _ E17.out.env.tab).mono ?_
  intro e w18 hg
  obtain ⟨a18, d18, rfl, hr, hF⟩ := hg.of
  have R18 := Lib.hid hr; clear hr hg
  clear c0 c1 c2 c3
  have E18 := Lib.hid (E17.out.step hF)
  clear hF E17
  have c0 := E18.out.env.x.c0
  have c1 := E18.out.env.x.c1
  have c2 := E18.out.env.y.c0
  have c3 := E18.out.env.y.c1
  go_wp2_with fail
  refine (CQOr.out _ _ _ _ _ E18.out.p E18.out.q).mono ?_
  intro e w19 hg
  obtain ⟨a19, d19, rfl, hr, hF⟩ := hg.of
  have R19 := Lib.hid hr; clear hr hg
  have R18 := Lib.hid (R18.out.keep hF fun _ _ => id)
  clear c0 c1 c2 c3
  have E19 := Lib.hid (E18.out.step hF)
  clear hF E18
  have c0 := E19.out.env.x.c0
  have c1 := E19.out.env.x.c1
  have c2 := E19.out.env.y.c0
  have c3 := E19.out.env.y.c1
  go_wp2_with fail
  refine (Sets.Same_yes _ _ _ _ _ _ _ _ R18.out R19.out (by omega) (by omega)).mono ?_
  rintro e w20 ⟨rfl, hF⟩
  clear c0 c1 c2 c3
  have E20 := Lib.hid (E19.out.step hF)
  clear hF E19
  have c0 := E20.out.env.x.c0
  have c1 := E20.out.env.x.c1
  have c2 := E20.out.env.y.c0
  have c3 := E20.out.env.y.c1
  clear R18 R19
  go_wp2_with fail
  refine (CAnd.out _).mono ?_
  rintro e w21 ⟨rfl, hF⟩
  clear c0 c1 c2 c3
  have E21 := Lib.hid (E20.out.step hF)
  clear hF E20
  have c0 := E21.out.env.x.c0
  have c1 := E21.out.env.x.c1
  have c2 := E21.out.env.y.c0
  have c3 := E21.out.env.y.c1
  go_wp2_with fail
  refine (CLA.out _ E21.out.env.tab).mono ?_
  intro e w22 hg
  obtain ⟨a22, d22, rfl, hr, hF⟩ := hg.of
  have R22 := Lib.hid hr; clear hr hg
  clear c0 c1 c2 c3
  have E22 := Lib.hid (E21.out.step hF)
  clear hF E21
  have c0 := E22.out.env.x.c0
  have c1 := E22.out.env.x.c1
  have c2 := E22.out.env.y.c0
  have c3 := E22.out.env.y.c1
  go_wp2_with fail
  refine (CQAnd.out _ _ _ _ _ E22.out.p E22.out.q).mono ?_
  intro e w23 hg
  obtain ⟨a23, d23, rfl, hr, hF⟩ := hg.of
  have R23 := Lib.hid hr; clear hr hg
  have R22 := Lib.hid (R22.out.keep hF fun _ _ => id)
  clear c0 c1 c2 c3
  have E23 := Lib.hid (E22.out.step hF)
  clear hF E22
  have c0 := E23.out.env.x.c0
  have c1 := E23.out.env.x.c1
  have c2 := E23.out.env.y.c0
  have c3 := E23.out.env.y.c1
  go_wp2_with fail
  refine (Sets.Same_yes _ _ _ _ _ _ _ _ R22.out R23.out (by omega) (by omega)).mono ?_
  rintro e w24 ⟨rfl, hF⟩
  clear c0 c1 c2 c3
  have E24 := Lib.hid (E23.out.step hF)
  clear hF E23
  have c0 := E24.out.env.x.c0
  have c1 := E24.out.env.x.c1
  have c2 := E24.out.env.y.c0
  have c3 := E24.out.env.y.c1
  clear R22 R23
  go_wp2_with fail
  refine (CNot.out _).mono ?_
  rintro e w25 ⟨rfl, hF⟩
  clear c0 c1 c2 c3
  have E25 := Lib.hid (E24.out.step hF)
  clear hF E24
  have c0 := E25.out.env.x.c0
  have c1 := E25.out.env.x.c1
  have c2 := E25.out.env.y.c0
  have c3 := E25.out.env.y.c1
  go_wp2_with fail
  refine (CLN.out _ E25.out.env.tab).mono ?_
  intro e w26 hg
  obtain ⟨a26, d26, rfl, hr, hF⟩ := hg.of
  have R26 := Lib.hid hr; clear hr hg
  clear c0 c1 c2 c3
  have E26 := Lib.hid (E25.out.step hF)
  clear hF E25
  have c0 := E26.out.env.x.c0
  have c1 := E26.out.env.x.c1
  have c2 := E26.out.env.y.c0
  have c3 := E26.out.env.y.c1
  go_wp2_with fail
  refine (CQNot.out _ _ _ _ _ E26.out.p E26.out.q).mono ?_
  intro e w27 hg
  obtain ⟨a27, d27, rfl, hr, hF⟩ := hg.of
  have R27 := Lib.hid hr; clear hr hg
  have R26 := Lib.hid (R26.out.keep hF fun _ _ => id)
  clear c0 c1 c2 c3
  have E27 := Lib.hid (E26.out.step hF)
  clear hF E26
  have c0 := E27.out.env.x.c0
  have c1 := E27.out.env.x.c1
  have c2 := E27.out.env.y.c0
  have c3 := E27.out.env.y.c1
  go_wp2_with fail
  refine (Sets.Same_yes _ _ _ _ _ _ _ _ R26.out R27.out (by omega) (by omega)).mono ?_
  rintro e w28 ⟨rfl, hF⟩
  clear c0 c1 c2 c3
  have E28 := Lib.hid (E27.out.step hF)
  clear hF E27
  have c0 := E28.out.env.x.c0
  have c1 := E28.out.env.x.c1
  have c2 := E28.out.env.y.c0
  have c3 := E28.out.env.y.c1
  clear R26 R27
  go_wp2_with fail
  refine (CW.out _).mono ?_
  rintro e w29 ⟨rfl, hF⟩
  clear c0 c1 c2 c3
  have E29 := Lib.hid (E28.out.step hF)
  clear hF E28
  have c0 := E29.out.env.x.c0
  have c1 := E29.out.env.x.c1
  have c2 := E29.out.env.y.c0
  have c3 := E29.out.env.y.c1
  go_wp2_with fail
  refine (CQNot.out _ _ _ _ _ E29.out.p E29.out.q).mono ?_
  intro e w30 hg
  obtain ⟨a30, d30, rfl, hr, hF⟩ := hg.of
  have R30 := Lib.hid hr; clear hr hg
  clear c0 c1 c2 c3
  have E30 := Lib.hid (E29.out.step hF)
  clear hF E29
  have c0 := E30.out.env.x.c0
  have c1 := E30.out.env.x.c1
  have c2 := E30.out.env.y.c0
  have c3 := E30.out.env.y.c1
  go_wp2_with fail
  refine (CK.out _ E30.out.env.tab).mono ?_
  rintro e w31 ⟨rfl, hF⟩
  clear c0 c1 c2 c3
  have E31 := Lib.hid (E30.out.step hF)
  clear hF E30
  have c0 := E31.out.env.x.c0
  have c1 := E31.out.env.x.c1
  have c2 := E31.out.env.y.c0
  have c3 := E31.out.env.y.c1
  go_wp2_with fail
  go_ret
  exact ⟨rfl, Sets.Foot.bel E31.out.env.foot⟩

set_option maxRecDepth 100000 in
theorem lifted (os : Os) (started : os.Started) (H : Type) (enc : TypeId × Value → H) :
    ReturnsInHanded {} Tryd.checked os 3 .any (fun w args => (Rows.setTellsSpec.pre enc Tryd.prog Tryd.f3 [] false w args ∧ laidMetH Tryd.prog listed w) ∧ sizedMet enc Tryd.prog Tryd.f3 (OpenSpec.ofChange Rows.setTellsSpec) false w args) (Rows.setTellsSpec.post enc Tryd.prog Tryd.f3 false true false false) := by
  refine returnsInHanded_of_change_and (C := Tryd.checked) (X := fun w _ => laidMetH Tryd.prog listed w) (fun _ _ _ hh h => h.of_heap hh) own started (by kernel_rfl) Tryd.func3
    (ChangeSpec.witness_shaped (enc := enc) (C := Tryd.checked) (os := os) (X := fun w _ => laidMetH Tryd.prog listed w) false (World.doorLaid Tryd.prog 400 os) #[.slice none 0 0, .slice none 0 0, .int .i64 0] 8 rfl (World.shaped_of_RefB (by kernel_rfl) (by kernel_rfl)) (by kernel_rfl) (by kernel_rfl) (by kernel_rfl) (door_met os _)) ?_
  intro W base args ds gs before hval0 hW _ _ hL _
  have tab := of_laid hL
  have hval : ∀ (j : Nat) t v, Tryd.f3.params[j]? = some t → args[j]? = some v → Value.okWide Tryd.prog W .any base t v := hval0
  have hW' := hW
  obtain ⟨p, q, hA0, hV, rfl, hfz, hnd⟩ := hW
  have hA : DataW.TrodAll enc Tryd.prog W 0 (fun _ => true) true Tryd.f3.params.toList args.toList ds p := hA0
  rw [Tryd.params3] at hA hval
  obtain ⟨v0, vs0, d0, ds0, p0, q0, hargs, rfl, rfl, h0, r0⟩ := trodAll_cons hA
  obtain ⟨v1, vs1, d1, ds1, p1, q1, rfl, rfl, rfl, h1, r1⟩ := trodAll_cons r0
  obtain ⟨v2, vs2, d2, ds2, p2, q2, rfl, rfl, rfl, h2, r2⟩ := trodAll_cons r1
  obtain ⟨rfl, rfl, rfl⟩ := trodAll_nil r2
  obtain rfl : args = #[v0, v1, v2] := by cases args; simp_all
  obtain ⟨rfl, rfl⟩ := trodVars_none hV
  obtain ⟨a0, len0, cap0, rfl⟩ := okWide_slice Tryd.underlying22 (hval 0 22 v0 rfl rfl)
  have k0 := h0
  have lt0 : ∀ x ∈ p0, x.block < W.heap.size := by obtain ⟨m, hm⟩ := k0; exact DataW.trod_lt m _ _ _ hm
  obtain ⟨z0, w0⟩ := openA0 h0
  obtain ⟨a1, len1, cap1, rfl⟩ := okWide_slice Tryd.underlying22 (hval 1 22 v1 rfl rfl)
  have k1 := h1
  have lt1 : ∀ x ∈ p1, x.block < W.heap.size := by obtain ⟨m, hm⟩ := k1; exact DataW.trod_lt m _ _ _ hm
  obtain ⟨z1, w1⟩ := openA1 h1
  obtain ⟨a2, rfl, rfl, rfl, w2⟩ := open_int Tryd.underlying3 (hval 2 3 v2 rfl rfl) h2
  clear hA0 hval0
  refine (walk a0 len0 cap0 z0 a1 len1 cap1 z1 a2 W w0 w1 w2 tab).mono fun e W' ⟨he, bel⟩ => ?_
  subst he
  exact ⟨_, rfl, _, _, _, [], _, [], hW', trodAll_mk1 (shut_bool Tryd.underlying4 _), (trodAll_cons_mk (Below.trod laidOut (by kernel_rfl) (of_decide_eq_true (by kernel_rfl)) k0 bel lt0) (trodAll_cons_mk (Below.trod laidOut (by kernel_rfl) (of_decide_eq_true (by kernel_rfl)) k1 bel lt1) (trodAll_cons_mk (shut_int Tryd.underlying3 w2) trodAll_mk0))), rfl, bel.frame _, fun h => by cases h⟩

theorem over : Rows.setTellsRow.holds Tryd.pinned (OpenSpec.ofChange Rows.setTellsSpec) :=
  OpenClaim.holds_of_wide 3 Tryd.f3 rfl rfl rfl rfl rfl rfl rfl ⟨rfl, rfl, rfl, rfl, rfl⟩ rfl rfl rfl rfl rfl (by kernel_rfl) Tryd.func3 (by kernel_rfl)
    (of_decide_eq_true (by kernel_rfl)) (by unfold Func.isWrapper; first | (rw [if_pos (by decide +kernel)]; kernel_rfl) | (rw [if_neg (by decide +kernel)]; exact ⟨rfl, rfl⟩))
    (fun os started H enc _ => lifted os started H enc)

theorem proved : Rows.SetTellsCardSaid :=
  Claim7.holds_tied_plain_at .later [] [.data] true (true, "d742ee33c5a6471d52597bf90b3a655e2c546c586dd35d545d176a5b4816720c") false
    over (fun _ h => by cases h) (by kernel_rfl) (fun _ h => by cases h) setTells_row_tie rfl ⟨rfl, rfl⟩ (by kernel_rfl) rfl
    (fun f fn hf hfn => by
      obtain rfl : f = 3 := Option.some.inj ((show Tryd.prog.funcNamed Tryd.f3.name = some 3 by kernel_rfl).symm.trans hf) |>.symm
      obtain rfl : fn = Tryd.f3 := (Option.some.inj (Tryd.func3.symm.trans hfn)).symm
      exact ⟨by kernel_rfl, fun j t ht => by
        rw [Tryd.params3] at ht
        have hm : t ∈ [22, 22, 3] := by simpa using Array.mem_of_getElem? ht
        have hall : ([22, 22, 3].all fun u => !Tryd.prog.wantsStandIn u) = true := by kernel_rfl
        exact (show Tryd.prog.wantsStandIn t = false by simpa using List.all_eq_true.1 hall t hm)⟩)
    (by kernel_rfl)
#print axioms proved
end Go.Proofs.YtkoedgmfjpcocaaDoor.setTells
