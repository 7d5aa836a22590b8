/- For any capacities, any steps and any needs: the Ledger and the reference answer each step alike, and agree after it in what is free, taken and met; the chapter's example holds. No condition. -/
import Derived.Test.YtjiagdooacieeaaRows
import Derived.WalkKit
import Derived.ProofKit
import Derived.OpenShut
import Derived.ShutString
import Derived.ChangeOld
import Derived.Below
import Derived.Test.YtjiagdooacieeaaPair4
import Derived.Deep.DeepCutAuto
import Derived.Deep.CutBlock
import Derived.Deep.LoopGhost
namespace Go.Proofs.Ytjiagdooacieeaa.ledgerPlays
open Go.ChangeShapes Go.WideShapes Go.ChangeAt Go.RowKit
open Go.ChangeMaps (open_string shut_string)
set_option linter.unusedVariables false
set_option linter.unusedSimpArgs false

theorem own : ownKnob Try.prog.godebug = none := by kernel_rfl
theorem laidOut : laidOutB Try.prog = true := by kernel_rfl
open Led Mem

theorem openA0 {H : Type} {enc : TypeId × Value → H} {w : World} {a : Option Addr} {len cap : Nat} {d : DataW H} {p : List MemPlace} (h : DataW.Trod enc Try.prog w 0 (fun _ => true) true 22 (.slice a len cap) d p) : ∃ zs, IntsIn w a len cap zs := openInts h
theorem openA1 {H : Type} {enc : TypeId × Value → H} {w : World} {a : Option Addr} {len cap : Nat} {d : DataW H} {p : List MemPlace} (h : DataW.Trod enc Try.prog w 0 (fun _ => true) true 23 (.slice a len cap) d p) : ∃ F, MovesIn w a len cap F := openSteps h
theorem openA2 {H : Type} {enc : TypeId × Value → H} {w : World} {a : Option Addr} {len cap : Nat} {d : DataW H} {p : List MemPlace} (h : DataW.Trod enc Try.prog w 0 (fun _ => true) true 22 (.slice a len cap) d p) : ∃ zs, IntsIn w a len cap zs := openInts h

def Rel (W : World) (p g lo q gt n : Nat) (ac : Option Addr) (cc : Nat) (C : Nat → Int) (wr : World) : Prop := ∃ H, St W wr p g lo q gt n ac cc C H H

set_option maxHeartbeats 4000000 in
set_option maxRecDepth 100000 in
theorem walk (a0 : Option Addr) (len0 cap0 : Nat) (z0 : List Int) (a1 : Option Addr) (len1 cap1 : Nat) (z1 : Nat → Int × Int) (a2 : Option Addr) (len2 cap2 : Nat) (z2 : List Int) (w : World)
    (w0 : IntsIn w a0 len0 cap0 z0) (w1 : MovesIn w a1 len1 cap1 z1) (w2 : IntsIn w a2 len2 cap2 z2) :
    Calls Try.prog 3 #[.slice a0 len0 cap0, .slice a1 len1 cap1, .slice a2 len2 cap2] w fun e w' => e = .returned (.bool true) ∧ Below w.heap.size w w' := by
  have hz0 := Nat.le_trans w0.le w0.max
  have hz1 := Nat.le_trans w1.le w1.max
  have hz2 := Nat.le_trans w2.le w2.max
  unfold maxLen at hz0 hz1 hz2
  have W0 := Lib.hid w0; have W1 := Lib.hid w1; have W2 := Lib.hid w2
  have HB0 : Hid (Below w.heap.size w w) := Lib.hid (Below.refl _ _)
  clear w0 w1 w2
  by_cases hl0 : 100 < len0
  · clear W0 W1 W2
    go_enter Try.func3, Try.ntmps3
    go_wp2_with fail
    refine (known _).mono ?_
    rintro e w9 ⟨rfl, hb⟩
    have HB9 := Lib.hid (HB0.out.trans (hb.mono HB0.out.size))
    clear hb
    go_wp2_with fail
    go_ret
    exact ⟨rfl, HB9.out⟩
  by_cases hl1 : 200 < len1
  · clear W0 W1 W2
    go_enter Try.func3, Try.ntmps3
    go_wp2_with fail
    refine (known _).mono ?_
    rintro e w9 ⟨rfl, hb⟩
    have HB9 := Lib.hid (HB0.out.trans (hb.mono HB0.out.size))
    clear hb
    go_wp2_with fail
    go_ret
    exact ⟨rfl, HB9.out⟩
  by_cases hl2 : 100 < len2
  · clear W0 W1 W2
    go_enter Try.func3, Try.ntmps3
    go_wp2_with fail
    refine (known _).mono ?_
    rintro e w9 ⟨rfl, hb⟩
    have HB9 := Lib.hid (HB0.out.trans (hb.mono HB0.out.size))
    clear hb
    go_wp2_with fail
    go_ret
    exact ⟨rfl, HB9.out⟩
  by_cases hg : NoCaps z0 len0
  · have C1 := Lib.hid (New_no a0 len0 cap0 z0 w W0.out.reads (by omega) hg)
    have C2 := Lib.hid fun w' hr => New_no' a0 len0 cap0 z0 w' hr (by omega) hg
    clear hg W1 W2
    go_enter Try.func3, Try.ntmps3
    go_wp2_with fail
    refine C1.out.mono ?_
    rintro e w3 ⟨rfl, hF⟩
    have HF := Lib.hid hF; clear hF
    go_wp2_with fail
    refine (C2.out w3 (W0.out.reads.keep HF.out fun _ _ => id)).mono ?_
    rintro e w4 ⟨rfl, rfl⟩
    have HB := Lib.hid (HF.out.below (B := w.heap.size) (fun _ _ h => h.elim) (Nat.le_refl _))
    clear HF C1 C2
    go_wp2_with fail
    go_loopw [11] (fun i wr => i = .int .i64 0 ∧ wr = w3) (fun _ _ => 0)
    case atStart => exact ⟨rfl, rfl⟩
    case round =>
      obtain ⟨rfl, rfl⟩ := hrel
      by_cases h0 : len1 = 0
      · subst h0
        go_wp2_with fail
        refine (known _).mono ?_
        rintro e w9 ⟨rfl, hb⟩
        have HB9 := Lib.hid (HB.out.trans (hb.mono HB.out.size))
        clear hb
        go_wp2_with fail
        go_ret
        exact ⟨rfl, HB9.out⟩
      · have h1 : 0 < len1 := by omega
        go_wp2_with fail
        refine (known _).mono ?_
        rintro e w9 ⟨rfl, hb⟩
        have HB9 := Lib.hid (HB.out.trans (hb.mono HB.out.size))
        clear hb
        go_wp2_with fail
        go_ret
        exact ⟨rfl, HB9.out⟩
  have hn : len0 ≤ 24 := by
    rcases Nat.lt_or_ge 24 len0 with h | h
    · exact absurd (Or.inl h) hg
    · exact h
  have hgood : CapsOk z0 len0 := by
    rcases Decidable.em (CapsOk z0 len0) with h | h
    · exact h
    · exact absurd (Or.inr h) hg
  have C1 := Lib.hid (New_ok a0 len0 cap0 z0 w W0.out.reads hn hgood)
  have C2 := Lib.hid fun w' hr => Ref4.New_ok a0 len0 cap0 z0 w' hr hn hgood
  clear hg hgood hl0
  go_enter Try.func3, Try.ntmps3
  go_wp2_with fail
  refine C1.out.mono ?_
  rintro e w3 ⟨rfl, hL, hF⟩
  have M3 : Hid (Mine w w3 (w.heap.size + 1) w.heap.size len0 (capsOf z0 len0) fun _ => 0) := Lib.hid (Mine.of_new HB0.out hL hF)
  have R3 := Lib.hid (W0.out.reads.keep hF fun _ _ => id)
  clear hL hF C1
  go_wp2_with fail
  refine (C2.out w3 R3.out).mono ?_
  rintro e w4 ⟨q, gt, ac, cc, rfl, hR, hF⟩
  have S4 := Lib.hid (St.of_new M3.out hR hF)
  clear hR hF C2 M3 R3
  go_wp2_with fail
  go_loopg [11] len1 (fun k i wr => ∃ j : Nat, k + j = len1 ∧ i = .int .i64 j ∧ Rel w (w.heap.size + 1) w.heap.size w3.heap.size q gt len0 ac cc (capsOf z0 len0) wr)
  case atStart => exact ⟨0, rfl, rfl, _, S4.out⟩
  case round =>
    obtain ⟨j, hgk, rfl, H, hS⟩ := hrel
    have HS := Lib.hid hS; clear hS S4
    by_cases hlt : j < len1
    · obtain ⟨b, off, rfl, hc0, hc1⟩ := W1.out.cell HS.out.mine.below hlt
      generalize hq : (z1 j).1 = k at hc0
      generalize hx : (z1 j).2 = c at hc1
      clear hq hx
      have HGK := Lib.hid hgk; clear hgk
      go_upto_block 2 with fail
      go_cut [13] (fun v wx => v = .bool true ∧ Rel w (w.heap.size + 1) w.heap.size w3.heap.size q gt len0 ac cc (capsOf z0 len0) wx)
      case first =>
        by_cases k1 : 0 ≤ k ∧ k ≤ 3
        · obtain ⟨q0, q3⟩ := k1
          go_wp2_with fail
          refine (sTake w _ _ _ q gt len0 ac cc _ H H c wr HS.out).mono ?_
          rintro e w5 ⟨rfl, hS⟩
          have S5 := Lib.hid hS; clear hS
          go_wp2_with fail
          refine (rTake w _ _ _ q gt len0 ac cc _ _ H c w5 S5.out).mono ?_
          rintro e w6 ⟨rfl, hS⟩
          have S6 := Lib.hid hS; clear hS S5
          generalize takeR len0 (capsOf z0 len0) H c = r
          go_wp2_with fail
          go_meet
          case rel => exact ⟨by simp, _, S6.out⟩
        · by_cases k2 : 4 ≤ k ∧ k ≤ 6
          · obtain ⟨q0, q3⟩ := k2
            have q1 : 3 < k := by omega
            have q2 : 0 ≤ k := by omega
            clear k1
            go_wp2_with fail
            refine (sGive w _ _ _ q gt len0 ac cc _ H H c wr HS.out).mono ?_
            rintro e w5 ⟨rfl, hS⟩
            have S5 := Lib.hid hS; clear hS
            go_wp2_with fail
            refine (rGive w _ _ _ q gt len0 ac cc _ _ H c w5 S5.out).mono ?_
            rintro e w6 ⟨rfl, hS⟩
            have S6 := Lib.hid hS; clear hS S5
            generalize giveR len0 H c = r
            go_wp2_with fail
            go_meet
            case rel => exact ⟨by simp, _, S6.out⟩
          · by_cases k3 : k = 7
            · subst k3
              clear k1 k2
              go_wp2_with fail
              refine (sReset w _ _ _ q gt len0 ac cc _ H H c wr HS.out).mono ?_
              rintro e w5 ⟨rfl, hS⟩
              have S5 := Lib.hid hS; clear hS
              go_wp2_with fail
              refine (rReset w _ _ _ q gt len0 ac cc _ _ H c w5 S5.out).mono ?_
              rintro e w6 ⟨rfl, hS⟩
              have S6 := Lib.hid hS; clear hS S5
              generalize heldOf len0 H c = r
              generalize resetR len0 c = r2
              go_wp2_with fail
              go_meet
              case rel => exact ⟨by simp, _, S6.out⟩
            · have b7 : (k == 7) = false := by rw [beq_eq_false_iff_ne]; omega
              have ho : k < 0 ∨ 0 ≤ k ∧ 3 < k ∧ 4 ≤ k ∧ 6 < k := by omega
              clear k1 k2 k3
              rcases ho with ho | ⟨ho1, ho2, ho3, ho4⟩
              all_goals
                go_wp2_with fail
                go_meet
                case rel => exact ⟨rfl, _, HS.out⟩
      case rest =>
        obtain ⟨rfl, H', hS'⟩ := hcut
        have S5 := Lib.hid hS'; clear hS' HS hc0 hc1
        go_wp2_with fail
        refine (sFree w _ _ _ q gt len0 ac cc _ H' H' c _ S5.out).mono ?_
        rintro e w5 ⟨rfl, hS⟩
        have S6 := Lib.hid hS; clear hS S5
        go_wp2_with fail
        refine (rFree w _ _ _ q gt len0 ac cc _ H' H' c _ S6.out).mono ?_
        rintro e w6 ⟨rfl, hS⟩
        have S7 := Lib.hid hS; clear hS S6
        generalize freeOf len0 (capsOf z0 len0) H' c = r1
        go_wp2_with fail
        refine (sHeld w _ _ _ q gt len0 ac cc _ H' H' c _ S7.out).mono ?_
        rintro e w7 ⟨rfl, hS⟩
        have S8 := Lib.hid hS; clear hS S7
        go_wp2_with fail
        refine (rHeld w _ _ _ q gt len0 ac cc _ H' H' c _ S8.out).mono ?_
        rintro e w8 ⟨rfl, hS⟩
        have S9 := Lib.hid hS; clear hS S8
        generalize heldOf len0 H' c = r2
        go_wp2_with fail
        refine (sHas w _ _ _ q gt len0 ac cc _ H' H' _ S9.out a2 len2 cap2 z2 (W2.out.reads.below S9.out.mine.below) hz2).mono ?_
        rintro e w9 ⟨rfl, hS⟩
        have S10 := Lib.hid hS; clear hS S9
        go_wp2_with fail
        refine (rHas w _ _ _ q gt len0 ac cc _ H' H' _ S10.out a2 len2 cap2 z2 (W2.out.reads.below S10.out.mine.below) hz2).mono ?_
        rintro e w10 ⟨rfl, hS⟩
        have S11 := Lib.hid hS; clear hS S10
        generalize met len0 (capsOf z0 len0) H' z2 = r3
        go_wp2_with fail
        go_roundg (len1 - (j + 1))
        case measure => have := HGK.out; omega
        case rel => exact ⟨j + 1, by omega, by go_num, H', S11.out⟩
    · have HB := Lib.hid HS.out.mine.below
      have hjl : len1 ≤ j := by omega
      go_wp2_with fail
      refine (known _).mono ?_
      rintro e w9 ⟨rfl, hb⟩
      have HB9 := Lib.hid (HB.out.trans (hb.mono HB.out.size))
      clear hb
      go_wp2_with fail
      go_ret
      exact ⟨rfl, HB9.out⟩

set_option maxRecDepth 100000 in
theorem lifted (os : Os) (started : os.Started) (H : Type) (enc : TypeId × Value → H) :
    ReturnsInHanded {} Try.checked os 3 .any (Rows.ledgerPlaysSpec.pre6 enc Try.prog Try.f3 Rows.ledgerPlaysRow.domain false) (Rows.ledgerPlaysSpec.post enc Try.prog Try.f3 false true false false) := by
  refine returnsInHanded_of_change (C := Try.checked) own started (by kernel_rfl) Try.func3
    (ChangeSpec.witness6 (enc := enc) (C := Try.checked) false ⟨#[], #[.slice none 0 0, .slice none 0 0, .slice none 0 0], []⟩ 8 (by kernel_rfl) (by kernel_rfl) (by kernel_rfl) (by kernel_rfl)) ?_
  intro W base args ds gs before hval0 hW hcnd _
  have hval : ∀ (j : Nat) t v, Try.f3.params[j]? = some t → args[j]? = some v → Value.okWide Try.prog W .any base t v := hval0
  have hW' := hW
  obtain ⟨p, q, hA0, hV, rfl, hfz, hnd⟩ := hW
  have hA : DataW.TrodAll enc Try.prog W 0 (fun _ => true) true Try.f3.params.toList args.toList ds p := hA0
  rw [Try.params3] at hA hval
  obtain ⟨v0, vs0, d0, ds0, p0, q0, hargs, rfl, rfl, h0, r0⟩ := trodAll_cons hA
  obtain ⟨v1, vs1, d1, ds1, p1, q1, rfl, rfl, rfl, h1, r1⟩ := trodAll_cons r0
  obtain ⟨v2, vs2, d2, ds2, p2, q2, rfl, rfl, rfl, h2, r2⟩ := trodAll_cons r1
  obtain ⟨rfl, rfl, rfl⟩ := trodAll_nil r2
  obtain rfl : args = #[v0, v1, v2] := by cases args; simp_all
  obtain ⟨rfl, rfl⟩ := trodVars_none hV
  obtain ⟨a0, len0, cap0, rfl⟩ := okWide_slice Try.underlying22 (hval 0 22 v0 rfl rfl)
  have k0 := h0
  have lt0 : ∀ x ∈ p0, x.block < W.heap.size := by obtain ⟨m, hm⟩ := k0; exact DataW.trod_lt m _ _ _ hm
  obtain ⟨z0, w0⟩ := openA0 h0
  obtain ⟨a1, len1, cap1, rfl⟩ := okWide_slice Try.underlying23 (hval 1 23 v1 rfl rfl)
  have k1 := h1
  have lt1 : ∀ x ∈ p1, x.block < W.heap.size := by obtain ⟨m, hm⟩ := k1; exact DataW.trod_lt m _ _ _ hm
  obtain ⟨z1, w1⟩ := openA1 h1
  obtain ⟨a2, len2, cap2, rfl⟩ := okWide_slice Try.underlying22 (hval 2 22 v2 rfl rfl)
  have k2 := h2
  have lt2 : ∀ x ∈ p2, x.block < W.heap.size := by obtain ⟨m, hm⟩ := k2; exact DataW.trod_lt m _ _ _ hm
  obtain ⟨z2, w2⟩ := openA2 h2
  clear hA0 hval0
  refine (walk a0 len0 cap0 z0 a1 len1 cap1 z1 a2 len2 cap2 z2 W w0 w1 w2).mono fun e W' ⟨he, bel⟩ => ?_
  subst he
  exact ⟨_, rfl, _, _, _, [], _, [], hW', trodAll_mk1 (shut_bool Try.underlying4 _), (trodAll_cons_mk (Below.trod laidOut (by kernel_rfl) (of_decide_eq_true (by kernel_rfl)) k0 bel lt0) (trodAll_cons_mk (Below.trod laidOut (by kernel_rfl) (of_decide_eq_true (by kernel_rfl)) k1 bel lt1) (trodAll_cons_mk (Below.trod laidOut (by kernel_rfl) (of_decide_eq_true (by kernel_rfl)) k2 bel lt2) trodAll_mk0))), rfl, bel.frame _, fun h => by cases h⟩

theorem over : Rows.ledgerPlaysRow.holds Try.pinned (OpenSpec.ofChange Rows.ledgerPlaysSpec) :=
  OpenClaim.holds_of_wide 3 Try.f3 rfl rfl rfl rfl rfl rfl rfl ⟨rfl, rfl, rfl, rfl, rfl⟩ rfl rfl rfl rfl rfl (by kernel_rfl) Try.func3 (by kernel_rfl)
    (of_decide_eq_true (by kernel_rfl)) (by unfold Func.isWrapper; first | (rw [if_pos (by decide +kernel)]; kernel_rfl) | (rw [if_neg (by decide +kernel)]; exact ⟨rfl, rfl⟩))
    (fun os started H enc _ => lifted os started H enc)

theorem proved : Rows.LedgerPlaysSaid := over
#print axioms proved
end Go.Proofs.Ytjiagdooacieeaa.ledgerPlays
