/- For any steps: the Wheel and the reference answer each step alike, and agree after it in what is left of the step's timer, in what fires next and in how many run; the chapter's example holds. No condition. -/
import Derived.Test.YtjpepnokijbhgaaRows
import Derived.WalkKit
import Derived.ProofKit
import Derived.OpenShut
import Derived.ShutString
import Derived.ChangeOld
import Derived.Below
import Derived.Test.YtjpepnokijbhgaaPair5
import Derived.Deep.DeepCutAuto
import Derived.Deep.CutBlock
import Derived.Deep.LoopGhost
import Derived.Deep.RegionHeld3
namespace Go.Proofs.Ytjpepnokijbhgaa.wheelPlays
open Go.ChangeShapes Go.WideShapes Go.ChangeAt Go.RowKit
open Go.ChangeMaps (open_string shut_string)
set_option linter.unusedVariables false
set_option linter.unusedSimpArgs false

theorem own : ownKnob Try.prog.godebug = none := by kernel_rfl
theorem laidOut : laidOutB Try.prog = true := by kernel_rfl
open Whl Mem MapK MapF Tim

theorem openA0 {H : Type} {enc : TypeId × Value → H} {w : World} {a : Option Addr} {len cap : Nat} {d : DataW H} {p : List MemPlace} (h : DataW.Trod enc Try.prog w 0 (fun _ => true) true 22 (.slice a len cap) d p) : ∃ z, StepsIn5 w a len cap z := openSteps5 h

def stepCells (k i t n : Int) : Array Value := #[.int .i64 k, .int .i64 i, .int .i64 t, .int .i64 n]
/-- The cells that a region reads, and all else. -/
theorem holdP {W w' : World} {p q bs : Nat} {k i t n : Int} {L M : TRows} (h : Hid (PairE W w' p q bs (stepCells k i t n) L M)) :
    w'.cell? ⟨bs, 1, none⟩ = some (.int .i64 i) ∧ w'.cell? ⟨bs, 2, none⟩ = some (.int .i64 t) ∧ w'.cell? ⟨bs, 3, none⟩ = some (.int .i64 n) :=
  ⟨h.out.at_.cell 1, h.out.at_.cell 2, h.out.at_.cell 3⟩

def Rel (W : World) (p q j : Nat) (wr : World) : Prop := ∃ L, L.length ≤ j ∧ DuoE W wr p q L L
def Rel2 (W : World) (p q bs : Nat) (cs : Array Value) (j : Nat) (wr : World) : Prop := ∃ L, L.length ≤ j ∧ PairE W wr p q bs cs L L

set_option maxHeartbeats 4000000 in
set_option maxRecDepth 100000 in
theorem walk (a0 : Option Addr) (len0 cap0 : Nat) (z0 : Nat → Step5) (w : World) (w0 : StepsIn5 w a0 len0 cap0 z0) :
    Calls Try.prog 3 #[.slice a0 len0 cap0] w fun e w' => e = .returned (.bool true) ∧ Below w.heap.size w w' := by
  have hz0 := Nat.le_trans w0.le w0.max
  unfold maxLen at hz0
  have W0 := Lib.hid w0
  have HB0 : Hid (Below w.heap.size w w) := Lib.hid (Below.refl _ _)
  clear w0
  by_cases hl0 : 200 < len0
  · clear W0
    go_enter Try.func3, Try.ntmps3
    go_wp2_with fail
    refine (New w).mono ?_
    rintro e w1 ⟨rfl, hw, hf⟩
    have M1 := Lib.hid ((Mine.of_new HB0.out hw hf).still ((Foot.refl _ w1).alloc (.cells #[.slice none 0 0] 28)))
    clear hw hf
    go_wp2_with fail
    refine (known _).mono ?_
    rintro e w9 ⟨rfl, hb⟩
    have HB9 := Lib.hid (M1.out.below.trans (hb.mono M1.out.below.size))
    clear hb
    go_wp2_with fail
    go_ret
    exact ⟨rfl, HB9.out⟩
  have hl0' : len0 ≤ 200 := by omega
  clear hl0
  go_enter Try.func3, Try.ntmps3
  go_wp2_with fail
  refine (New w).mono ?_
  rintro e w1 ⟨rfl, hw, hf⟩
  have D1 : Hid (DuoE w (w1.alloc (.cells #[.slice none 0 0] 28)) w.heap.size w1.heap.size [] []) := Lib.hid
    ⟨none, none, 0, (Mine.of_new HB0.out hw hf).still ((Foot.refl _ w1).alloc _), Ref5.RefAt.new w1 none, hf.size, fun g hg => by simp [Value.ownBlock] at hg⟩
  clear hw hf
  go_wp2_with fail
  generalize w1.heap.size = q at *
  go_loopg [5] len0 (fun k i wr => ∃ j : Nat, k + j = len0 ∧ i = .int .i64 j ∧ Rel w w.heap.size q j wr)
  case atStart => exact ⟨0, rfl, rfl, [], by simp, D1.out⟩
  case round =>
    obtain ⟨j, hgk, rfl, L, hL, hD⟩ := hrel
    have HD := Lib.hid hD; clear hD D1
    by_cases hlt : j < len0
    · obtain ⟨b, off, rfl, ⟨c0, c1, c2, c3⟩, hI⟩ := W0.out.cell HD.out.below hlt
      generalize hq : (z0 j).1 = k at c0 hI
      generalize hx : (z0 j).2.1.1 = i at c1 hI
      generalize hy : (z0 j).2.1.2 = t at c2 hI
      generalize hv : (z0 j).2.2 = n at c3 hI
      have HI := Lib.hid hI
      clear hq hx hy hv hI
      have HGK := Lib.hid hgk; clear hgk
      have hgen : ∃ wd, wd = wr.alloc (.cells #[.int .i64 k, .int .i64 i, .int .i64 t, .int .i64 n] 33) ∧ PairE w wd w.heap.size q wr.heap.size (stepCells k i t n) L L := ⟨_, rfl, HD.out.box _⟩
      go_upto_block 2 with fail
      obtain ⟨wd, hwd, hS⟩ := hgen
      rw [← hwd]
      have HS := Lib.hid hS
      clear hwd hS HD c0 c1 c2 c3
      generalize wr.heap.size = bs at *
      have s0 : wd.cell? ⟨bs, 0, none⟩ = some (.int .i64 k) := HS.out.at_.cell 0
      have s1 : wd.cell? ⟨bs, 1, none⟩ = some (.int .i64 i) := HS.out.at_.cell 1
      have s2 : wd.cell? ⟨bs, 2, none⟩ = some (.int .i64 t) := HS.out.at_.cell 2
      have s3 : wd.cell? ⟨bs, 3, none⟩ = some (.int .i64 n) := HS.out.at_.cell 3
      have HSd : Hid (PairE w wd.drew w.heap.size q bs (stepCells k i t n) L L) := Lib.hid (HS.out.still (Foot.refl _ wd).drew)
      have hLb : L.length ≤ 900000 := by omega
      go_cut [7] (fun v wx => v = .bool true ∧ Rel2 w w.heap.size q bs (stepCells k i t n) (j + 1) wx)
      case first =>
        by_cases k1 : 0 ≤ k ∧ k ≤ 3
        · obtain ⟨q0, q3⟩ := k1
          have CA := Lib.hid fun w' (h : Hid (PairE w w' w.heap.size q bs (stepCells k i t n) L L)) => sArm w w' w.heap.size q bs (stepCells k i t n) L L i t n h.out HI.out.2.1 HI.out.2.2.1
          have CB := Lib.hid fun w' (h : Hid (PairE w w' w.heap.size q bs (stepCells k i t n) (armS (i, t) n L) L)) => rArm w w' w.heap.size q bs (stepCells k i t n) (armS (i, t) n L) L i t n h.out HI.out.2.1 HI.out.2.2.1 hLb
          have HLn : Hid ((armS (i, t) n L).length ≤ j + 1) := Lib.hid (by
            unfold armS
            split
            · exact Nat.le_trans (length_arm L) (by omega)
            · omega)
          generalize armS (i, t) n L = L2 at *
          generalize armR (i, t) n = r at *
          go_wp2_with fail
          go_region_held3 (fun w' => w'.cell? ⟨bs, 1, none⟩ = some (.int .i64 i) ∧ w'.cell? ⟨bs, 2, none⟩ = some (.int .i64 t) ∧ w'.cell? ⟨bs, 3, none⟩ = some (.int .i64 n))
            (first | exact holdP (by assumption : Hid (PairE w _ w.heap.size q bs (stepCells k i t n) L2 L2)) | exact holdP (by assumption : Hid (PairE w _ w.heap.size q bs (stepCells k i t n) L2 L)) | go_keep)
            (first
              | (go_at_call 10; (with_reducible refine (CA.out _ (by assumption)).mono ?_); rintro e w5 ⟨rfl, hS⟩; have S5 := Lib.hid hS; clear hS)
              | (go_at_call 11; (with_reducible refine (CB.out _ (by assumption)).mono ?_); rintro e w6 ⟨rfl, hS⟩; have S6 := Lib.hid hS; clear hS))
          go_wp2_with fail
          go_meet
          case rel => exact ⟨by simp, L2, HLn.out, S6.out⟩
        · by_cases k2 : k = 4
          · subst k2
            clear k1
            have CA := Lib.hid fun w' (h : Hid (PairE w w' w.heap.size q bs (stepCells 4 i t n) L L)) => sCancel w w' w.heap.size q bs (stepCells 4 i t n) L L i t h.out HI.out.2.1 HI.out.2.2.1
            have CB := Lib.hid fun w' (h : Hid (PairE w w' w.heap.size q bs (stepCells 4 i t n) (out L (i, t)) L)) => rCancel w w' w.heap.size q bs (stepCells 4 i t n) (out L (i, t)) L i t h.out hLb
            have HLn : Hid ((out L (i, t)).length ≤ j + 1) := Lib.hid (Nat.le_trans (length_out L) (by omega))
            generalize out L (i, t) = L2 at *
            generalize leftB L (i, t) = r at *
            go_wp2_with fail
            go_region_held3 (fun w' => w'.cell? ⟨bs, 1, none⟩ = some (.int .i64 i) ∧ w'.cell? ⟨bs, 2, none⟩ = some (.int .i64 t) ∧ w'.cell? ⟨bs, 3, none⟩ = some (.int .i64 n))
              (first | exact holdP (by assumption : Hid (PairE w _ w.heap.size q bs (stepCells 4 i t n) L2 L2)) | exact holdP (by assumption : Hid (PairE w _ w.heap.size q bs (stepCells 4 i t n) L2 L)) | go_keep)
              (first
                | (go_at_call 12; (with_reducible refine (CA.out _ (by assumption)).mono ?_); rintro e w5 ⟨rfl, hS⟩; have S5 := Lib.hid hS; clear hS)
                | (go_at_call 13; (with_reducible refine (CB.out _ (by assumption)).mono ?_); rintro e w6 ⟨rfl, hS⟩; have S6 := Lib.hid hS; clear hS))
            go_wp2_with fail
            go_meet
            case rel => exact ⟨by simp, L2, HLn.out, S6.out⟩
          · by_cases k3 : k = 5
            · subst k3
              clear k1 k2
              have CA := Lib.hid fun w' (h : Hid (PairE w w' w.heap.size q bs (stepCells 5 i t n) L L)) => sClear w w' w.heap.size q bs (stepCells 5 i t n) L L i h.out hLb
              have CB := Lib.hid fun w' (h : Hid (PairE w w' w.heap.size q bs (stepCells 5 i t n) (clearL i L) L)) => rClear w w' w.heap.size q bs (stepCells 5 i t n) (clearL i L) L i h.out hLb
              have HLn : Hid ((clearL i L).length ≤ j + 1) := Lib.hid (Nat.le_trans (length_clear i L) (by omega))
              generalize (L.length : Int) - ((clearL i L).length : Int) = r at *
              generalize clearL i L = L2 at *
              go_wp2_with fail
              go_region_held3 (fun w' => w'.cell? ⟨bs, 1, none⟩ = some (.int .i64 i) ∧ w'.cell? ⟨bs, 2, none⟩ = some (.int .i64 t) ∧ w'.cell? ⟨bs, 3, none⟩ = some (.int .i64 n))
                (first | exact holdP (by assumption : Hid (PairE w _ w.heap.size q bs (stepCells 5 i t n) L2 L2)) | exact holdP (by assumption : Hid (PairE w _ w.heap.size q bs (stepCells 5 i t n) L2 L)) | go_keep)
                (first
                  | (go_at_call 14; (with_reducible refine (CA.out _ (by assumption)).mono ?_); rintro e w5 ⟨rfl, hS⟩; have S5 := Lib.hid hS; clear hS)
                  | (go_at_call 15; (with_reducible refine (CB.out _ (by assumption)).mono ?_); rintro e w6 ⟨rfl, hS⟩; have S6 := Lib.hid hS; clear hS))
              go_wp2_with fail
              go_meet
              case rel => exact ⟨by simp, L2, HLn.out, S6.out⟩
            · have b4 : (k == 4) = false := by rw [beq_eq_false_iff_ne]; exact k2
              have b5 : (k == 5) = false := by rw [beq_eq_false_iff_ne]; exact k3
              have ho : k < 0 ∨ 0 ≤ k ∧ 3 < k := by omega
              have HLn : Hid ((tickL L).length ≤ j + 1) := Lib.hid (Nat.le_trans (length_tick L) (by omega))
              have hqlt : q < wd.heap.size := by
                obtain ⟨_, _, _, h⟩ := HS.out
                exact h.ref.at_.lt
              clear k1 k2 k3
              rcases ho with ho | ⟨ho1, ho2⟩
              all_goals
                go_wp2_with fail
                refine (sTick w _ _ q bs _ L L HS.out hLb).mono ?_
                rintro e w5 ⟨a5, d5, rfl, hS, hF⟩
                have S5 := Lib.hid hS
                have F5 := Lib.hid hF
                clear hS hF
                go_wp2_with fail
                refine (rTick w _ _ q bs _ _ L S5.out hLb F5.out hqlt).mono ?_
                rintro e w6 ⟨a6, d6, rfl, hS, hF6, hF5⟩
                have S6 := Lib.hid hS
                have CS := Lib.hid (Ref5.same _ _ a5 a6 d5 d6 (firedL L) w6 hF5 hF6)
                clear hS hF6 hF5 F5 S5
                go_wp2_with fail
                refine CS.out.mono ?_
                rintro e w7 ⟨rfl, dn, rfl⟩
                go_wp2_with fail
                go_meet
                case rel => exact ⟨rfl, tickL L, HLn.out, S6.out.still ((Foot.refl _ w6).drewN dn)⟩
      case rest =>
        obtain ⟨rfl, L2, hL2, hS⟩ := hcut
        have S5 := Lib.hid hS
        have hLc : L2.length ≤ 900000 := by omega
        clear hS HS HSd s0 s1 s2 s3
        have s1 : wc.cell? ⟨bs, 1, none⟩ = some (.int .i64 i) := S5.out.at_.cell 1
        have s2 : wc.cell? ⟨bs, 2, none⟩ = some (.int .i64 t) := S5.out.at_.cell 2
        go_wp2_with fail
        refine (sLeft w _ _ q bs _ L2 L2 i t S5.out HI.out.2.1 HI.out.2.2.1).mono ?_
        rintro e w6 ⟨rfl, hS⟩
        have S6 := Lib.hid hS
        clear hS S5 s1 s2
        have s1 : w6.cell? ⟨bs, 1, none⟩ = some (.int .i64 i) := S6.out.at_.cell 1
        have s2 : w6.cell? ⟨bs, 2, none⟩ = some (.int .i64 t) := S6.out.at_.cell 2
        go_wp2_with fail
        refine (rLeft w _ _ q bs _ L2 L2 i t S6.out hLc).mono ?_
        rintro e w7 ⟨rfl, hS⟩
        have S7 := Lib.hid hS
        clear hS S6 s1 s2
        generalize leftN L2 (i, t) = r1
        generalize leftB L2 (i, t) = r2
        go_wp2_with fail
        refine (sNext w _ _ q bs _ L2 L2 S7.out).mono ?_
        rintro e w8 ⟨rfl, hS⟩
        have S8 := Lib.hid hS
        clear hS S7
        go_wp2_with fail
        refine (rNext w _ _ q bs _ L2 L2 S8.out hLc).mono ?_
        rintro e w9 ⟨rfl, hS⟩
        have S9 := Lib.hid hS
        clear hS S8
        generalize nextN L2 = r3
        generalize nextB L2 = r4
        have CL := Lib.hid fun n => sLen w (w9.drewN n) _ q bs _ L2 L2 (S9.out.still ((Foot.refl _ w9).drewN n))
        obtain ⟨ar, cr, q0⟩ : ∃ a c, w9.cell? ⟨q, 0, none⟩ = some (.slice a L2.length c) := by
          obtain ⟨_, a, c, h⟩ := S9.out
          exact ⟨a, c, h.ref.at_.cell 0⟩
        go_wp2_with fail
        go_quiet (first
          | (go_at_call 23; exact Calls.quiet_of_same (CL.out _)))
        go_wp2_with fail
        go_roundg (len0 - (j + 1))
        case measure => have := HGK.out; omega
        case rel => exact ⟨j + 1, by omega, by go_num, L2, hL2, (S9.out.still ((Foot.refl _ w9).drewN _)).duo⟩
    · have HB := Lib.hid HD.out.below
      have hjl : len0 ≤ j := by omega
      go_wp2_with fail
      refine (known _).mono ?_
      rintro e w9 ⟨rfl, hb⟩
      have HB9 := Lib.hid (HB.out.trans (hb.mono HB.out.size))
      clear hb
      go_wp2_with fail
      go_ret
      exact ⟨rfl, HB9.out⟩

set_option maxRecDepth 100000 in
theorem lifted (os : Os) (started : os.Started) (H : Type) (enc : TypeId × Value → H) :
    ReturnsInHanded {} Try.checked os 3 .any (Rows.wheelPlaysSpec.pre6 enc Try.prog Try.f3 Rows.wheelPlaysRow.domain false) (Rows.wheelPlaysSpec.post enc Try.prog Try.f3 false true false false) := by
  refine returnsInHanded_of_change (C := Try.checked) own started (by kernel_rfl) Try.func3
    (ChangeSpec.witness6 (enc := enc) (C := Try.checked) false ⟨#[], #[.slice none 0 0], []⟩ 8 (by kernel_rfl) (by kernel_rfl) (by kernel_rfl) (by kernel_rfl)) ?_
  intro W base args ds gs before hval0 hW hcnd _
  have hval : ∀ (j : Nat) t v, Try.f3.params[j]? = some t → args[j]? = some v → Value.okWide Try.prog W .any base t v := hval0
  have hW' := hW
  obtain ⟨p, q, hA0, hV, rfl, hfz, hnd⟩ := hW
  have hA : DataW.TrodAll enc Try.prog W 0 (fun _ => true) true Try.f3.params.toList args.toList ds p := hA0
  rw [Try.params3] at hA hval
  obtain ⟨v0, vs0, d0, ds0, p0, q0, hargs, rfl, rfl, h0, r0⟩ := trodAll_cons hA
  obtain ⟨rfl, rfl, rfl⟩ := trodAll_nil r0
  obtain rfl : args = #[v0] := by cases args; simp_all
  obtain ⟨rfl, rfl⟩ := trodVars_none hV
  obtain ⟨a0, len0, cap0, rfl⟩ := okWide_slice Try.underlying22 (hval 0 22 v0 rfl rfl)
  have k0 := h0
  have lt0 : ∀ x ∈ p0, x.block < W.heap.size := by obtain ⟨m, hm⟩ := k0; exact DataW.trod_lt m _ _ _ hm
  obtain ⟨z0, w0⟩ := openA0 h0
  clear hA0 hval0
  refine (walk a0 len0 cap0 z0 W w0).mono fun e W' ⟨he, bel⟩ => ?_
  subst he
  exact ⟨_, rfl, _, _, _, [], _, [], hW', trodAll_mk1 (shut_bool Try.underlying4 _), (trodAll_cons_mk (Below.trod laidOut (by kernel_rfl) (of_decide_eq_true (by kernel_rfl)) k0 bel lt0) trodAll_mk0), rfl, bel.frame _, fun h => by cases h⟩

theorem over : Rows.wheelPlaysRow.holds Try.pinned (OpenSpec.ofChange Rows.wheelPlaysSpec) :=
  OpenClaim.holds_of_wide 3 Try.f3 rfl rfl rfl rfl rfl rfl rfl ⟨rfl, rfl, rfl, rfl, rfl⟩ rfl rfl rfl rfl rfl (by kernel_rfl) Try.func3 (by kernel_rfl)
    (of_decide_eq_true (by kernel_rfl)) (by unfold Func.isWrapper; first | (rw [if_pos (by decide +kernel)]; kernel_rfl) | (rw [if_neg (by decide +kernel)]; exact ⟨rfl, rfl⟩))
    (fun os started H enc _ => lifted os started H enc)

theorem proved : Rows.WheelPlaysSaid := over
#print axioms proved
end Go.Proofs.Ytjpepnokijbhgaa.wheelPlays
