/- The rules of sets hold of any three lists' sets: what is in both and what is in the first alone are the first; parted from the second; union turns round; intersection distributes; differences chain; sizes add up. No condition; the table of math/bits is laid as its initialiser lays it (tied). -/
import Derived.Test.YtkoedgmfjpcocaaDoorRows
import Derived.WalkKit
import Derived.ProofKit
import Derived.OpenShut
import Derived.ShutString
import Derived.ChangeOld
import Derived.Below
import Derived.Test.YtkoedgmfjpcocaaDoorLaw3b
import Derived.Test.YtkoedgmfjpcocaaDoorOpen
import Derived.Deep.RegionHeld3
import Derived.Test.YtkoedgmfjpcocaaDoorCards
import Derived.Test.YtkoedgmfjpcocaaDoorTie
import Derived.Test.YtkoedgmfjpcocaaDoorTab
import Derived.SevenTiedAt
import Derived.LaidMore
import Derived.Stop.Joined
namespace Go.Proofs.YtkoedgmfjpcocaaDoor.setRules
open Go.ChangeShapes Go.WideShapes Go.ChangeAt Go.RowKit
open Go.ChangeMaps (open_string shut_string)
set_option linter.unusedVariables false
set_option linter.unusedSimpArgs false

open Go.Proofs.YtkoedgmfjpcocaaDoor.Sets (listed door_met of_laid)
theorem own : ownKnob Tryd.prog.godebug = none := by kernel_rfl
theorem laidOut : laidOutB Tryd.prog = true := by kernel_rfl
open Mem Words
open Sets (Tab)

theorem openA0 {H : Type} {enc : TypeId × Value → H} {w : World} {a : Option Addr} {len cap : Nat} {d : DataW H} {p : List MemPlace} (h : DataW.Trod enc Tryd.prog w 0 (fun _ => true) true 22 (.slice a len cap) d p) : ∃ zs, IntsIn w a len cap zs :=
  open_ints_in Tryd.underlying22 Tryd.underlying3 (by kernel_rfl) h
theorem openA1 {H : Type} {enc : TypeId × Value → H} {w : World} {a : Option Addr} {len cap : Nat} {d : DataW H} {p : List MemPlace} (h : DataW.Trod enc Tryd.prog w 0 (fun _ => true) true 22 (.slice a len cap) d p) : ∃ zs, IntsIn w a len cap zs :=
  open_ints_in Tryd.underlying22 Tryd.underlying3 (by kernel_rfl) h
theorem openA2 {H : Type} {enc : TypeId × Value → H} {w : World} {a : Option Addr} {len cap : Nat} {d : DataW H} {p : List MemPlace} (h : DataW.Trod enc Tryd.prog w 0 (fun _ => true) true 22 (.slice a len cap) d p) : ∃ zs, IntsIn w a len cap zs :=
  open_ints_in Tryd.underlying22 Tryd.underlying3 (by kernel_rfl) h

set_option maxHeartbeats 4000000 in
set_option maxRecDepth 100000 in
theorem walk (a0 : Option Addr) (len0 cap0 : Nat) (z0 : List Int) (a1 : Option Addr) (len1 cap1 : Nat) (z1 : List Int) (a2 : Option Addr) (len2 cap2 : Nat) (z2 : List Int) (w : World) (w0 : IntsIn w a0 len0 cap0 z0) (w1 : IntsIn w a1 len1 cap1 z1) (w2 : IntsIn w a2 len2 cap2 z2) (hT : Tab w) :
    Calls Tryd.prog 6 #[.slice a0 len0 cap0, .slice a1 len1 cap1, .slice a2 len2 cap2] w fun e w' => e = .returned (.bool true) ∧ Below w.heap.size w w' := by
  have hz0 := Nat.le_trans w0.le w0.max
  have hz1 := Nat.le_trans w1.le w1.max
  have hz2 := Nat.le_trans w2.le w2.max
  unfold maxLen at hz0 hz1 hz2
  have W0 := Lib.hid w0; have W1 := Lib.hid w1; have W2 := Lib.hid w2
  have HT := Lib.hid hT
  clear w0 w1 w2 hT
  have CK := Lib.hid fun w hT => Sets.known w hT
  have CF0 := Lib.hid fun w => Sets.few a0 len0 cap0 w hz0
  have CF1 := Lib.hid fun w => Sets.few a1 len1 cap1 w hz1
  have CF2 := Lib.hid fun w => Sets.few a2 len2 cap2 w hz2
  by_cases hl0 : len0 ≤ 300
  case neg =>
    have CF := Lib.hid fun w => (by have h := CF0.out w; rwa [decide_eq_false hl0] at h : Calls Tryd.prog 8 #[.slice a0 len0 cap0] w fun e w' => e = .returned (.bool false) ∧ w = w')
    clear CF0 CF1 CF2 hl0
    go_enter Tryd.func6, Tryd.ntmps6
    go_wp2_with fail
    refine (CF.out _).mono ?_
    rintro e w3 ⟨rfl, rfl⟩
    go_wp2_with fail
    refine (CK.out _ HT.out).mono ?_
    rintro e w4 ⟨rfl, hF⟩
    have HF := Lib.hid hF; clear hF
    go_wp2_with fail
    go_ret
    exact ⟨rfl, Sets.Foot.bel HF.out⟩
  have D0 := Lib.hid fun w => (by have h := CF0.out w; rwa [decide_eq_true hl0] at h : Calls Tryd.prog 8 #[.slice a0 len0 cap0] w fun e w' => e = .returned (.bool true) ∧ w = w')
  by_cases hl1 : len1 ≤ 300
  case neg =>
    have CF := Lib.hid fun w => (by have h := CF1.out w; rwa [decide_eq_false hl1] at h : Calls Tryd.prog 8 #[.slice a1 len1 cap1] w fun e w' => e = .returned (.bool false) ∧ w = w')
    clear CF0 CF1 CF2 hl1
    go_enter Tryd.func6, Tryd.ntmps6
    go_wp2_with fail
    refine (D0.out _).mono ?_
    rintro e w3 ⟨rfl, rfl⟩
    go_wp2_with fail
    refine (CF.out _).mono ?_
    rintro e w3 ⟨rfl, rfl⟩
    go_wp2_with fail
    refine (CK.out _ HT.out).mono ?_
    rintro e w4 ⟨rfl, hF⟩
    have HF := Lib.hid hF; clear hF
    go_wp2_with fail
    go_ret
    exact ⟨rfl, Sets.Foot.bel HF.out⟩
  have D1 := Lib.hid fun w => (by have h := CF1.out w; rwa [decide_eq_true hl1] at h : Calls Tryd.prog 8 #[.slice a1 len1 cap1] w fun e w' => e = .returned (.bool true) ∧ w = w')
  by_cases hl2 : len2 ≤ 300
  case neg =>
    have CF := Lib.hid fun w => (by have h := CF2.out w; rwa [decide_eq_false hl2] at h : Calls Tryd.prog 8 #[.slice a2 len2 cap2] w fun e w' => e = .returned (.bool false) ∧ w = w')
    clear CF0 CF1 CF2 hl2
    go_enter Tryd.func6, Tryd.ntmps6
    go_wp2_with fail
    refine (D0.out _).mono ?_
    rintro e w3 ⟨rfl, rfl⟩
    go_wp2_with fail
    refine (D1.out _).mono ?_
    rintro e w3 ⟨rfl, rfl⟩
    go_wp2_with fail
    refine (CF.out _).mono ?_
    rintro e w3 ⟨rfl, rfl⟩
    go_wp2_with fail
    refine (CK.out _ HT.out).mono ?_
    rintro e w4 ⟨rfl, hF⟩
    have HF := Lib.hid hF; clear hF
    go_wp2_with fail
    go_ret
    exact ⟨rfl, Sets.Foot.bel HF.out⟩
  have D2 := Lib.hid fun w => (by have h := CF2.out w; rwa [decide_eq_true hl2] at h : Calls Tryd.prog 8 #[.slice a2 len2 cap2] w fun e w' => e = .returned (.bool true) ∧ w = w')
  clear CF0 CF1 CF2 hl0 hl1 hl2
  have O0 := Lib.hid fun w hr => Sets.Of a0 len0 cap0 z0 w hr hz0 W0.out.fits
  have RW0 := Lib.hid W0.out.reads
  have O1 := Lib.hid fun w hr => Sets.Of a1 len1 cap1 z1 w hr hz1 W1.out.fits
  have RW1 := Lib.hid W1.out.reads
  have O2 := Lib.hid fun w hr => Sets.Of a2 len2 cap2 z2 w hr hz2 W2.out.fits
  have RW2 := Lib.hid W2.out.reads
  clear W0 W1 W2
  generalize ofP z0 = x at *
  generalize ofP z1 = y at *
  generalize ofP z2 = z at *
  have heq1 := Sets.eq_yes (Sets.rule1 x y)
  have heq2 := Sets.eq_none (Sets.rule2 x y)
  have heq3 := Sets.eq_yes (Sets.rule3 x y)
  have heq4 := Sets.eq_yes (Sets.rule4 x y z)
  have heq5 := Sets.eq_yes (Sets.rule5 x y z)
  have CAnd := Lib.hid fun p q w => Sets.And p q w
  have COr := Lib.hid fun p q w => Sets.Or p q w
  have CNot := Lib.hid fun p q w => Sets.Not p q w
  have hr6 := Sets.rule6 x y
  have hx := els_le x
  have hy := els_le y
  have ha := els_le (andP x y)
  have CLx := Lib.hid fun w => Sets.Len x w
  have CLy := Lib.hid fun w => Sets.Len y w
  have CLa := Lib.hid fun w => Sets.Len (andP x y) w
  have CLo := Lib.hid fun w => (by have h := Sets.Len (orP x y) w; rwa [show (((els (orP x y)).length : Nat) : Int) = ((els x).length : Int) + ((els y).length : Int) - ((els (andP x y)).length : Int) by omega] at h :
    Calls Tryd.prog 14 #[.agg #[.int .u64 (lo (orP x y) : Nat), .int .u64 (hi (orP x y) : Nat)]] w fun e w' => e = .returned (.int .i64 (((els x).length : Int) + ((els y).length : Int) - ((els (andP x y)).length : Int))) ∧ Foot (fun _ => False) w w')
  clear hr6
  generalize (els x).length = nx at *
  generalize (els y).length = ny at *
  generalize (els (andP x y)).length = na at *
  have s1 : IntKind.i64.wrap ((nx : Int) + (ny : Int)) = (nx : Int) + (ny : Int) := by rw [IntKind.wrap_i64]; omega
  have s2 : IntKind.i64.wrap ((nx : Int) + (ny : Int) - (na : Int)) = (nx : Int) + (ny : Int) - (na : Int) := by rw [IntKind.wrap_i64]; omega
  go_enter Tryd.func6, Tryd.ntmps6
  go_wp2_with fail
  refine (D0.out _).mono ?_
  rintro e w3 ⟨rfl, rfl⟩
  go_wp2_with fail
  refine (D1.out _).mono ?_
  rintro e w3 ⟨rfl, rfl⟩
  go_wp2_with fail
  refine (D2.out _).mono ?_
  rintro e w3 ⟨rfl, rfl⟩
  go_wp2_with fail
  refine (O0.out _ RW0.out).mono ?_
  rintro e v0 ⟨rfl, hF⟩
  have RW1 := Lib.hid (RW1.out.keep hF fun _ _ => id)
  have RW2 := Lib.hid (RW2.out.keep hF fun _ _ => id)
  have F0 := Lib.hid hF; clear hF
  go_wp2_with fail
  refine (O1.out _ RW1.out).mono ?_
  rintro e v1 ⟨rfl, hF⟩
  have RW2 := Lib.hid (RW2.out.keep hF fun _ _ => id)
  have F1 := Lib.hid (F0.out.trans hF fun _ _ h => h); clear hF F0
  go_wp2_with fail
  refine (O2.out _ RW2.out).mono ?_
  rintro e v2 ⟨rfl, hF⟩
  have F2 := Lib.hid (F1.out.trans hF fun _ _ h => h); clear hF F1
  go_wp2_with fail
  obtain ⟨w5, hw5⟩ : ∃ w5, ((((v2.alloc (.cells #[.int .u64 (lo x : Nat), .int .u64 (hi x : Nat)] 28)).alloc (.cells #[.int .u64 (lo y : Nat), .int .u64 (hi y : Nat)] 28)).alloc (.cells #[.int .u64 (lo z : Nat), .int .u64 (hi z : Nat)] 28)).alloc (.cells #[.int .u64 0, .int .u64 0] 28)) = w5 := ⟨_, rfl⟩
  rw [hw5]
  have hF5 : Foot (fun _ => False) v2 w5 := by rw [← hw5]; exact ((((Foot.refl _ v2).alloc _).alloc _).alloc _).alloc _
  have F5 := Lib.hid (F2.out.trans hF5 fun _ _ h => h)
  have E5 : Hid (Sets.Env3 w w5 v2.heap.size x y z) := Lib.hid ⟨F5.out, by rw [← hw5]; exact (((At.new _ _ _).alloc _).alloc _).alloc _, by rw [← hw5]; exact ((Sets.At.newAt _ _ (by simp)).alloc _).alloc _,
    by rw [← hw5]; exact (Sets.At.newAt _ _ (by simp)).alloc _, by rw [← hw5]; exact Sets.At.newAt _ _ (by simp), HT.out.foot F5.out id⟩
  have E6 := Sets.Env3.drew E5
  clear hw5 hF5 F5 E5 F2
  have c0 := E6.out.x.c0
  have c1 := E6.out.x.c1
  have c2 := E6.out.y.c0
  have c3 := E6.out.y.c1
  have c4 := E6.out.z.c0
  have c5 := E6.out.z.c1
  have c6 := E6.out.n0
  have c7 := E6.out.n1
  generalize v2.heap.size = b at *
  simp only [List.append_eq, List.cons_append, List.nil_append]
  go_region_held3 (fun w' => w'.cell? ⟨b, 0, none⟩ = some (.int .u64 (lo x : Nat)) ∧ w'.cell? ⟨b, 1, none⟩ = some (.int .u64 (hi x : Nat)) ∧ w'.cell? ⟨b + 1, 0, none⟩ = some (.int .u64 (lo y : Nat)) ∧ w'.cell? ⟨b + 1, 1, none⟩ = some (.int .u64 (hi y : Nat)) ∧
      w'.cell? ⟨b + 2, 0, none⟩ = some (.int .u64 (lo z : Nat)) ∧ w'.cell? ⟨b + 2, 1, none⟩ = some (.int .u64 (hi z : Nat)) ∧ w'.cell? ⟨b + 3, 0, none⟩ = some (.int .u64 0) ∧ w'.cell? ⟨b + 3, 1, none⟩ = some (.int .u64 0) ∧ Hid (Sets.Env3 w w' b x y z))
    (exact Sets.Env3.hold (by assumption))
    (first
      | (go_at_call 19; (with_reducible refine (CAnd.out _ _ _).mono ?_); rintro e wa ⟨rfl, hFa⟩; have Ea := Sets.Env3.hstep hFa (by assumption : Hid (Sets.Env3 w _ b x y z)))
      | (go_at_call 17; (with_reducible refine (COr.out _ _ _).mono ?_); rintro e wo ⟨rfl, hFo⟩; have Eo := Sets.Env3.hstep hFo (by assumption : Hid (Sets.Env3 w _ b x y z)))
      | (go_at_call 21; (with_reducible refine (CNot.out _ _ _).mono ?_); rintro e wn ⟨rfl, hFn⟩; have En := Sets.Env3.hstep hFn (by assumption : Hid (Sets.Env3 w _ b x y z)))
      | (go_at_call 14; (with_reducible refine (CLx.out _).mono ?_); rintro e wl ⟨rfl, hFl⟩; have El := Sets.Env3.hstep hFl (by assumption : Hid (Sets.Env3 w _ b x y z)))
      | (go_at_call 14; (with_reducible refine (CLy.out _).mono ?_); rintro e wl ⟨rfl, hFl⟩; have El := Sets.Env3.hstep hFl (by assumption : Hid (Sets.Env3 w _ b x y z)))
      | (go_at_call 14; (with_reducible refine (CLa.out _).mono ?_); rintro e wl ⟨rfl, hFl⟩; have El := Sets.Env3.hstep hFl (by assumption : Hid (Sets.Env3 w _ b x y z)))
      | (go_at_call 14; (with_reducible refine (CLo.out _).mono ?_); rintro e wl ⟨rfl, hFl⟩; have El := Sets.Env3.hstep hFl (by assumption : Hid (Sets.Env3 w _ b x y z)))
      | (go_at_call 9; (with_reducible refine (CK.out _ (Hid.out (by assumption : Hid (Sets.Env3 w _ b x y z))).tab).mono ?_); rintro e wk ⟨rfl, hFk⟩; have Ek := Sets.Env3.hstep hFk (by assumption : Hid (Sets.Env3 w _ b x y z))))
  go_wp2_with fail
  go_ret
  exact ⟨rfl, Sets.Foot.bel Ek.out.foot⟩

set_option maxRecDepth 100000 in
theorem lifted (os : Os) (started : os.Started) (H : Type) (enc : TypeId × Value → H) :
    ReturnsInHanded {} Tryd.checked os 6 .any (fun w args => (Rows.setRulesSpec.pre enc Tryd.prog Tryd.f6 [] false w args ∧ laidMetH Tryd.prog listed w) ∧ sizedMet enc Tryd.prog Tryd.f6 (OpenSpec.ofChange Rows.setRulesSpec) false w args) (Rows.setRulesSpec.post enc Tryd.prog Tryd.f6 false true false false) := by
  refine returnsInHanded_of_change_and (C := Tryd.checked) (X := fun w _ => laidMetH Tryd.prog listed w) (fun _ _ _ hh h => h.of_heap hh) own started (by kernel_rfl) Tryd.func6
    (ChangeSpec.witness_shaped (enc := enc) (C := Tryd.checked) (os := os) (X := fun w _ => laidMetH Tryd.prog listed w) false (World.doorLaid Tryd.prog 400 os) #[.slice none 0 0, .slice none 0 0, .slice none 0 0] 8 rfl (World.shaped_of_RefB (by kernel_rfl) (by kernel_rfl)) (by kernel_rfl) (by kernel_rfl) (by kernel_rfl) (door_met os _)) ?_
  intro W base args ds gs before hval0 hW _ _ hL _
  have tab := of_laid hL
  have hval : ∀ (j : Nat) t v, Tryd.f6.params[j]? = some t → args[j]? = some v → Value.okWide Tryd.prog W .any base t v := hval0
  have hW' := hW
  obtain ⟨p, q, hA0, hV, rfl, hfz, hnd⟩ := hW
  have hA : DataW.TrodAll enc Tryd.prog W 0 (fun _ => true) true Tryd.f6.params.toList args.toList ds p := hA0
  rw [Tryd.params6] at hA hval
  obtain ⟨v0, vs0, d0, ds0, p0, q0, hargs, rfl, rfl, h0, r0⟩ := trodAll_cons hA
  obtain ⟨v1, vs1, d1, ds1, p1, q1, rfl, rfl, rfl, h1, r1⟩ := trodAll_cons r0
  obtain ⟨v2, vs2, d2, ds2, p2, q2, rfl, rfl, rfl, h2, r2⟩ := trodAll_cons r1
  obtain ⟨rfl, rfl, rfl⟩ := trodAll_nil r2
  obtain rfl : args = #[v0, v1, v2] := by cases args; simp_all
  obtain ⟨rfl, rfl⟩ := trodVars_none hV
  obtain ⟨a0, len0, cap0, rfl⟩ := okWide_slice Tryd.underlying22 (hval 0 22 v0 rfl rfl)
  have k0 := h0
  have lt0 : ∀ x ∈ p0, x.block < W.heap.size := by obtain ⟨m, hm⟩ := k0; exact DataW.trod_lt m _ _ _ hm
  obtain ⟨z0, w0⟩ := openA0 h0
  obtain ⟨a1, len1, cap1, rfl⟩ := okWide_slice Tryd.underlying22 (hval 1 22 v1 rfl rfl)
  have k1 := h1
  have lt1 : ∀ x ∈ p1, x.block < W.heap.size := by obtain ⟨m, hm⟩ := k1; exact DataW.trod_lt m _ _ _ hm
  obtain ⟨z1, w1⟩ := openA1 h1
  obtain ⟨a2, len2, cap2, rfl⟩ := okWide_slice Tryd.underlying22 (hval 2 22 v2 rfl rfl)
  have k2 := h2
  have lt2 : ∀ x ∈ p2, x.block < W.heap.size := by obtain ⟨m, hm⟩ := k2; exact DataW.trod_lt m _ _ _ hm
  obtain ⟨z2, w2⟩ := openA2 h2
  clear hA0 hval0
  refine (walk a0 len0 cap0 z0 a1 len1 cap1 z1 a2 len2 cap2 z2 W w0 w1 w2 tab).mono fun e W' ⟨he, bel⟩ => ?_
  subst he
  exact ⟨_, rfl, _, _, _, [], _, [], hW', trodAll_mk1 (shut_bool Tryd.underlying4 _), (trodAll_cons_mk (Below.trod laidOut (by kernel_rfl) (of_decide_eq_true (by kernel_rfl)) k0 bel lt0) (trodAll_cons_mk (Below.trod laidOut (by kernel_rfl) (of_decide_eq_true (by kernel_rfl)) k1 bel lt1) (trodAll_cons_mk (Below.trod laidOut (by kernel_rfl) (of_decide_eq_true (by kernel_rfl)) k2 bel lt2) trodAll_mk0))), rfl, bel.frame _, fun h => by cases h⟩

theorem over : Rows.setRulesRow.holds Tryd.pinned (OpenSpec.ofChange Rows.setRulesSpec) :=
  OpenClaim.holds_of_wide 6 Tryd.f6 rfl rfl rfl rfl rfl rfl rfl ⟨rfl, rfl, rfl, rfl, rfl⟩ rfl rfl rfl rfl rfl (by kernel_rfl) Tryd.func6 (by kernel_rfl)
    (of_decide_eq_true (by kernel_rfl)) (by unfold Func.isWrapper; first | (rw [if_pos (by decide +kernel)]; kernel_rfl) | (rw [if_neg (by decide +kernel)]; exact ⟨rfl, rfl⟩))
    (fun os started H enc _ => lifted os started H enc)

theorem proved : Rows.SetRulesCardSaid :=
  Claim7.holds_tied_plain_at .later [] [.data] true (true, "d742ee33c5a6471d52597bf90b3a655e2c546c586dd35d545d176a5b4816720c") false
    over (fun _ h => by cases h) (by kernel_rfl) (fun _ h => by cases h) setRules_row_tie rfl ⟨rfl, rfl⟩ (by kernel_rfl) rfl
    (fun f fn hf hfn => by
      obtain rfl : f = 6 := Option.some.inj ((show Tryd.prog.funcNamed Tryd.f6.name = some 6 by kernel_rfl).symm.trans hf) |>.symm
      obtain rfl : fn = Tryd.f6 := (Option.some.inj (Tryd.func6.symm.trans hfn)).symm
      exact ⟨by kernel_rfl, fun j t ht => by
        rw [Tryd.params6] at ht
        have hm : t ∈ [22, 22, 22] := by simpa using Array.mem_of_getElem? ht
        have hall : ([22, 22, 22].all fun u => !Tryd.prog.wantsStandIn u) = true := by kernel_rfl
        exact (show Tryd.prog.wantsStandIn t = false by simpa using List.all_eq_true.1 hall t hm)⟩)
    (by kernel_rfl)
#print axioms proved
end Go.Proofs.YtkoedgmfjpcocaaDoor.setRules
