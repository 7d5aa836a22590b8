/- A timer fires at the tick that it was armed for, then alone, and once; armed anew it runs anew; the chapter's example holds. No condition. -/
import Derived.Test.YtjpepnokijbhgaaRows
import Derived.WalkKit
import Derived.ProofKit
import Derived.OpenShut
import Derived.ShutString
import Derived.ChangeOld
import Derived.Below
import Derived.Test.YtjpepnokijbhgaaFires5
import Derived.Deep.DeepCutAuto
import Derived.Deep.CutBlock
namespace Go.Proofs.Ytjpepnokijbhgaa.wheelFires
open Go.ChangeShapes Go.WideShapes Go.ChangeAt Go.RowKit
open Go.ChangeMaps (open_string shut_string)
set_option linter.unusedVariables false
set_option linter.unusedSimpArgs false

theorem own : ownKnob Try.prog.godebug = none := by kernel_rfl
theorem laidOut : laidOutB Try.prog = true := by kernel_rfl
open Whl Mem MapF Tim

set_option maxHeartbeats 4000000 in
set_option maxRecDepth 100000 in
theorem walk (a0 : Int) (a1 : Int) (a2 : Bool) (w : World) (w0 : (Lit.int .u8 a0).wf = true) (w1 : (Lit.int .u8 a1).wf = true) :
    Calls Try.prog 4 #[.int .u8 a0, .int .u8 a1, .bool a2] w fun e w' => e = .returned (.bool true) ∧ Below w.heap.size w w' := by
  have h0 : 0 ≤ a0 ∧ a0 ≤ 255 := by
    simp [Lit.wf, IntKind.min, IntKind.max, IntKind.bits, IntKind.signed] at w0
    omega
  have h1 : 0 ≤ a1 ∧ a1 ≤ 255 := by
    simp [Lit.wf, IntKind.min, IntKind.max, IntKind.bits, IntKind.signed] at w1
    omega
  clear w0 w1
  obtain ⟨k, hk⟩ : ∃ k : Nat, 1 + a0 % 60 = k := ⟨(1 + a0 % 60).toNat, by omega⟩
  have hk1 : 1 ≤ k ∧ k ≤ 60 := by omega
  have hw0 : IntKind.i64.wrap (1 + a0 % 60) = 1 + a0 % 60 := by rw [IntKind.wrap_i64]; omega
  have HB0 : Hid (Below w.heap.size w w) := Lib.hid (Below.refl _ _)
  go_enter Try.func4, Try.ntmps4
  go_wp2_with fail
  refine (New w).mono ?_
  rintro e w1 ⟨rfl, hw, hf⟩
  have M1 : Hid (OneF w (w1.alloc (.cells #[.int .i64 3, .int .i64 1] 31)) w.heap.size w1.heap.size none []) := Lib.hid ⟨(Mine.of_new HB0.out hw hf).still ((Foot.refl _ w1).alloc _), At.new _ _ _⟩
  have c0 : (w1.alloc (.cells #[.int .i64 3, .int .i64 1] 31)).cell? ⟨w1.heap.size, 0, none⟩ = some (.int .i64 3) := M1.out.box.cell 0
  have c1 : (w1.alloc (.cells #[.int .i64 3, .int .i64 1] 31)).cell? ⟨w1.heap.size, 1, none⟩ = some (.int .i64 1) := M1.out.box.cell 1
  clear hw hf
  obtain ⟨j, hj⟩ : ∃ j : Nat, a1 % (k : Int) = j := ⟨(a1 % (k : Int)).toNat, by
    have := Int.emod_nonneg a1 (show (k : Int) ≠ 0 by omega)
    omega⟩
  have hjk : j < k := by
    have := Int.emod_lt_of_pos a1 (show (0 : Int) < (k : Int) by omega)
    omega
  have htm : a1.tmod (k : Int) = j := by rw [Int.tmod_eq_emod_of_nonneg h1.1, hj]
  have hk0 : ((k : Int) == 0) = false := by rw [beq_eq_false_iff_ne]; omega
  go_wp2_with fail
  refine (armF w _ _ none (S31 0) k _ M1.out (arm31 0 (by omega) (by omega))).mono ?_
  rintro e w2 ⟨rfl, mv, hM⟩
  have M2 := Lib.hid hM
  have HJ := Lib.hid hj
  clear hM M1 c0 c1 hj hk
  generalize w1.heap.size = bf at *
  go_upto_if 29 with fail
  go_cut [6] (fun (_ : Value) wx => ∃ mv', OneF w wx w.heap.size bf mv' (S31 k))
  case first =>
    by_cases hb : a2 = true
    · subst hb
      go_wp2_with fail
      go_loopw [12] (fun i wr => ∃ n : Nat, n ≤ j ∧ i = .int .i64 n ∧ Hid (OneF w wr w.heap.size bf mv (S31 (k - n)))) (fun i _ => j - (intOf i).toNat)
      case atStart => exact ⟨0, Nat.zero_le _, rfl, by rw [show (k : Int) - (0 : Nat) = k by omega]; exact M2⟩
      case round =>
        obtain ⟨n, hn, rfl, HO⟩ := hrel
        by_cases hnj : n < j
        · go_wp2_with fail
          refine (tickF w _ bf mv _ wr HO.out (len31 _) (l := []) (L' := S31 (k - (n + 1 : Nat))) (by rw [fired31, if_neg (by omega)]) (by rw [tick31]; congr 1; omega)).mono ?_
          rintro e w3 ⟨a, c, rfl, hM, _⟩
          have M3 := Lib.hid hM
          clear hM
          go_wp2_with fail
          go_roundw
          case rel => exact ⟨n + 1, by omega, by go_num, M3⟩
          case measure => simp [intOf]; omega
        · obtain rfl : n = j := by omega
          have c0 : wr.cell? ⟨bf, 0, none⟩ = some (.int .i64 3) := HO.out.box.cell 0
          have c1 : wr.cell? ⟨bf, 1, none⟩ = some (.int .i64 1) := HO.out.box.cell 1
          clear hnj
          go_wp2_with fail
          refine (armF w _ bf mv _ k _ HO.out (arm31 _ (by omega) (by omega))).mono ?_
          rintro e w3 ⟨rfl, mv3, hM⟩
          have M3 := Lib.hid hM
          clear hM
          go_wp2_with fail
          go_meet
          case rel => exact ⟨_, M3.out⟩
    · obtain rfl : a2 = false := by simpa using hb
      go_wp2_with fail
      go_meet
      case rel => exact ⟨_, M2.out⟩
  case rest =>
    obtain ⟨mv', hM⟩ := hcut
    have M3 := Lib.hid hM
    clear hM
    go_wp2_with fail
    go_loopw [13] (fun i wr => ∃ n : Nat, 1 ≤ n ∧ n ≤ 131 ∧ i = .int .i64 n ∧ Hid (OneF w wr w.heap.size bf mv' (S31 (k - n + 1)))) (fun i _ => 131 - (intOf i).toNat)
    case atStart => exact ⟨1, by omega, by omega, rfl, by rw [show (k : Int) - (1 : Nat) + 1 = k by omega]; exact M3⟩
    case round =>
      obtain ⟨n, hn1, hn2, rfl, HO⟩ := hrel
      by_cases hn : n ≤ 130
      · have hn' : (n : Int) ≤ 130 := by omega
        have heq := eqFired 3 1 3 1
        rw [decide_eq_true rfl] at heq
        by_cases he : n = k
        · subst he
          go_wp2_with fail
          refine (tickF w _ bf mv' _ wr HO.out (len31 _) (l := [(3, 1)]) (L' := S31 (n - (n + 1 : Nat) + 1)) (by rw [fired31, if_pos (by omega)]) (by rw [tick31]; congr 1; omega)).mono ?_
          rintro e w4 ⟨a, c, rfl, hM, hF⟩
          have M4 := Lib.hid hM
          obtain ⟨g, off, rfl, d0, d1⟩ := firing_row hF rfl (k := 0) rfl
          rw [Nat.zero_mul, Nat.add_zero] at d0 d1
          have c0 : w4.cell? ⟨bf, 0, none⟩ = some (.int .i64 3) := M4.out.box.cell 0
          have c1 : w4.cell? ⟨bf, 1, none⟩ = some (.int .i64 1) := M4.out.box.cell 1
          clear hM hF
          go_wp2_with fail
          go_quiet (fail)
          go_wp2_with fail
          go_roundw
          case rel => exact ⟨n + 1, by omega, by omega, by go_num, Lib.hid (M4.out.still ((Foot.refl _ w4).drewN _))⟩
          case measure => simp [intOf]; omega
        · have hne : ((n : Int) == (k : Int)) = false := by rw [beq_eq_false_iff_ne]; omega
          go_wp2_with fail
          refine (tickF w _ bf mv' _ wr HO.out (len31 _) (l := []) (L' := S31 (k - (n + 1 : Nat) + 1)) (by rw [fired31, if_neg (by omega)]) (by rw [tick31]; congr 1; omega)).mono ?_
          rintro e w4 ⟨a, c, rfl, hM, hF⟩
          have M4 := Lib.hid hM
          clear hM hF
          go_wp2_with fail
          go_quiet (fail)
          go_wp2_with fail
          go_roundw
          case rel => exact ⟨n + 1, by omega, by omega, by go_num, Lib.hid (M4.out.still ((Foot.refl _ w4).drewN _))⟩
          case measure => simp [intOf]; omega
      · obtain rfl : n = 131 := by omega
        have hL : S31 ((k : Int) - (131 : Nat) + 1) = [] := S31_none (by omega)
        rw [hL] at HO
        clear hL hn
        go_wp2_with fail
        refine (lenM w _ mv' _ wr HO.out.mine).mono ?_
        rintro e w4 ⟨rfl, rfl⟩
        go_wp2_with fail
        refine (known _).mono ?_
        rintro e w5 ⟨rfl, hb⟩
        have HB := Lib.hid (HO.out.mine.below.trans (hb.mono HO.out.mine.below.size))
        clear hb
        go_wp2_with fail
        go_ret
        exact ⟨rfl, HB.out⟩

set_option maxRecDepth 100000 in
theorem lifted (os : Os) (started : os.Started) (H : Type) (enc : TypeId × Value → H) :
    ReturnsInHanded {} Try.checked os 4 .any (Rows.wheelFiresSpec.pre6 enc Try.prog Try.f4 Rows.wheelFiresRow.domain false) (Rows.wheelFiresSpec.post enc Try.prog Try.f4 false true false false) := by
  refine returnsInHanded_of_change (C := Try.checked) own started (by kernel_rfl) Try.func4
    (ChangeSpec.witness6 (enc := enc) (C := Try.checked) false ⟨#[], #[.int .u8 0, .int .u8 0, .bool false], []⟩ 8 (by kernel_rfl) (by kernel_rfl) (by kernel_rfl) (by kernel_rfl)) ?_
  intro W base args ds gs before hval0 hW hcnd _
  have hval : ∀ (j : Nat) t v, Try.f4.params[j]? = some t → args[j]? = some v → Value.okWide Try.prog W .any base t v := hval0
  have hW' := hW
  obtain ⟨p, q, hA0, hV, rfl, hfz, hnd⟩ := hW
  have hA : DataW.TrodAll enc Try.prog W 0 (fun _ => true) true Try.f4.params.toList args.toList ds p := hA0
  rw [Try.params4] at hA hval
  obtain ⟨v0, vs0, d0, ds0, p0, q0, hargs, rfl, rfl, h0, r0⟩ := trodAll_cons hA
  obtain ⟨v1, vs1, d1, ds1, p1, q1, rfl, rfl, rfl, h1, r1⟩ := trodAll_cons r0
  obtain ⟨v2, vs2, d2, ds2, p2, q2, rfl, rfl, rfl, h2, r2⟩ := trodAll_cons r1
  obtain ⟨rfl, rfl, rfl⟩ := trodAll_nil r2
  obtain rfl : args = #[v0, v1, v2] := by cases args; simp_all
  obtain ⟨rfl, rfl⟩ := trodVars_none hV
  obtain ⟨a0, rfl, rfl, rfl, w0⟩ := open_int Try.underlying5 (hval 0 5 v0 rfl rfl) h0
  obtain ⟨a1, rfl, rfl, rfl, w1⟩ := open_int Try.underlying5 (hval 1 5 v1 rfl rfl) h1
  obtain ⟨a2, rfl, rfl, rfl⟩ := open_bool Try.underlying4 (hval 2 4 v2 rfl rfl) h2
  clear hA0 hval0
  refine (walk a0 a1 a2 W w0 w1).mono fun e W' ⟨he, bel⟩ => ?_
  subst he
  exact ⟨_, rfl, _, _, _, [], _, [], hW', trodAll_mk1 (shut_bool Try.underlying4 _), (trodAll_cons_mk (shut_int Try.underlying5 w0) (trodAll_cons_mk (shut_int Try.underlying5 w1) (trodAll_cons_mk (shut_bool Try.underlying4 _) trodAll_mk0))), rfl, bel.frame _, fun h => by cases h⟩

theorem over : Rows.wheelFiresRow.holds Try.pinned (OpenSpec.ofChange Rows.wheelFiresSpec) :=
  OpenClaim.holds_of_wide 4 Try.f4 rfl rfl rfl rfl rfl rfl rfl ⟨rfl, rfl, rfl, rfl, rfl⟩ rfl rfl rfl rfl rfl (by kernel_rfl) Try.func4 (by kernel_rfl)
    (of_decide_eq_true (by kernel_rfl)) (by unfold Func.isWrapper; first | (rw [if_pos (by decide +kernel)]; kernel_rfl) | (rw [if_neg (by decide +kernel)]; exact ⟨rfl, rfl⟩))
    (fun os started H enc _ => lifted os started H enc)

theorem proved : Rows.WheelFiresSaid := over
#print axioms proved
end Go.Proofs.Ytjpepnokijbhgaa.wheelFires
