/- The credits of a channel can be taken as often as its capacity says, and no more; Has tells how many are left; given back they are free; Reset tells how many are still taken; the chapter's example holds. No condition. -/
import Derived.Test.YtjiagdooacieeaaRows
import Derived.WalkKit
import Derived.ProofKit
import Derived.OpenShut
import Derived.ShutString
import Derived.ChangeOld
import Derived.Below
import Derived.Test.YtjiagdooacieeaaKnown4
import Derived.Test.YtjiagdooacieeaaOpen
namespace Go.Proofs.Ytjiagdooacieeaa.ledgerDrains
open Go.ChangeShapes Go.WideShapes Go.ChangeAt Go.RowKit
open Go.ChangeMaps (open_string shut_string)
set_option linter.unusedVariables false
set_option linter.unusedSimpArgs false

theorem own : ownKnob Try.prog.godebug = none := by kernel_rfl
theorem laidOut : laidOutB Try.prog = true := by kernel_rfl
open Led Mem

/-- Two channels: of 3 credits, none taken; of k, j taken. -/
def Dk (k : Nat) : Nat → Int := capsOf [3, (k : Int)] 2
def Hj (j : Int) : Nat → Int := fun i => if i = 1 then j else 0
theorem free1 (k : Nat) (j r : Int) (h : (k : Int) - j = r) : freeOf 2 (Dk k) (Hj j) 1 = r := by subst h; simp [freeOf, Dk, capsOf, Hj]
theorem free0 (k : Nat) (j : Int) : freeOf 2 (Dk k) (Hj j) 0 = 3 := by simp [freeOf, Dk, capsOf, Hj]
theorem met1 (k : Nat) (j : Int) : met 2 (Dk k) (Hj j) [3, (k : Int) - j] = true := by
  refine decide_eq_true fun i hi => ?_
  have hi' : i = 0 ∨ i = 1 := by simp at hi; omega
  rcases hi' with rfl | rfl
  · exact Int.le_of_eq (free0 k j).symm
  · exact Int.le_of_eq (free1 k j _ rfl).symm
theorem met2 (k : Nat) (j : Int) : met 2 (Dk k) (Hj j) [0, (k : Int) - j + 1] = false := by
  refine decide_eq_false fun h => ?_
  have h1 : (k : Int) - j + 1 ≤ freeOf 2 (Dk k) (Hj j) 1 := h 1 (by simp)
  rw [free1 k j _ rfl] at h1
  omega
theorem take1 (k : Nat) (j : Int) (h : j < k) : takeR 2 (Dk k) (Hj j) 1 = 0 ∧ takeH 2 (Dk k) (Hj j) 1 = Hj (j + 1) := by
  have hc : (0 : Int) ≤ 1 ∧ (1 : Int) < ((2 : Nat) : Int) := by decide
  have he : ¬ Hj j (1 : Int).toNat = Dk k (1 : Int).toNat := by simp [Hj, Dk, capsOf]; omega
  refine ⟨(if_pos hc).trans (if_neg he), (if_pos ⟨hc, he⟩).trans (funext fun i => ?_)⟩
  by_cases e : i = 1
  · subst e; simp [upd, Hj]
  · simp [upd, Hj, e]
theorem give1 (j : Int) (h : 0 < j) : giveR 2 (Hj j) 1 = 0 ∧ giveH 2 (Hj j) 1 = Hj (j - 1) := by
  have hc : (0 : Int) ≤ 1 ∧ (1 : Int) < ((2 : Nat) : Int) := by decide
  have he : ¬ Hj j (1 : Int).toNat = 0 := by simp [Hj]; omega
  refine ⟨(if_pos hc).trans (if_neg he), (if_pos ⟨hc, he⟩).trans (funext fun i => ?_)⟩
  by_cases e : i = 1
  · subst e; simp [upd, Hj]
  · simp [upd, Hj, e]
theorem give0 : giveR 2 (Hj 0) 1 = 9 ∧ giveH 2 (Hj 0) 1 = Hj 0 := ⟨by simp [giveR, Hj], by simp [giveH, Hj]⟩
theorem reset1 (j : Int) : heldOf 2 (Hj j) 1 = j ∧ resetR 2 1 = 0 ∧ resetH 2 (Hj j) 1 = Hj 0 := by
  refine ⟨by simp [heldOf, Hj], by simp [resetR], (if_pos (by decide)).trans (funext fun i => ?_)⟩
  by_cases e : i = 1
  · subst e; simp [upd, Hj]
  · simp [upd, Hj, e]
theorem two_in (w : World) (x y : Int) : ReadsI (w.alloc (.cells #[.int .i64 x, .int .i64 y] 3)) (some ⟨w.heap.size, 0, none⟩) 2 [x, y] := At.reads (e := 3) (zs := [x, y]) (At.new w 3 #[.int .i64 x, .int .i64 y])

set_option maxHeartbeats 4000000 in
set_option maxRecDepth 100000 in
theorem walk (a0 : Int) (a1 : Int) (w : World) (w0 : (Lit.int .u8 a0).wf = true) (w1 : (Lit.int .u8 a1).wf = true) :
    Calls Try.prog 5 #[.int .u8 a0, .int .u8 a1] w fun e w' => e = .returned (.bool true) ∧ Below w.heap.size w w' := by
  have h0 : 0 ≤ a0 ∧ a0 ≤ 255 := by
    simp [Lit.wf, IntKind.min, IntKind.max, IntKind.bits, IntKind.signed] at w0
    omega
  have h1 : 0 ≤ a1 ∧ a1 ≤ 255 := by
    simp [Lit.wf, IntKind.min, IntKind.max, IntKind.bits, IntKind.signed] at w1
    omega
  clear w0 w1
  obtain ⟨k, hk⟩ : ∃ k : Nat, 1 + a0 % 32 = k := ⟨(1 + a0 % 32).toNat, by omega⟩
  have hk1 : 1 ≤ k ∧ k ≤ 32 := by omega
  have hw0 : IntKind.i64.wrap (1 + a0 % 32) = 1 + a0 % 32 := by rw [IntKind.wrap_i64]; omega
  have HS : Hid (Below w.heap.size w (w.alloc (.cells #[.int .i64 3, .int .i64 k] 3))) := Lib.hid ((Below.refl _ _).alloc (Nat.le_refl _) _)
  have C1 := Lib.hid (New_ok (some ⟨w.heap.size, 0, none⟩) 2 2 [3, (k : Int)] _ (two_in w 3 k) (by omega) (by
    intro i hi
    have hi' : i = 0 ∨ i = 1 := by omega
    rcases hi' with rfl | rfl
    · exact (show (1 : Int) ≤ 3 ∧ (3 : Int) ≤ 32 by decide)
    · exact (show (1 : Int) ≤ (k : Int) ∧ (k : Int) ≤ 32 by omega)))
  rw [World.size_alloc] at C1
  go_enter Try.func5, Try.ntmps5
  go_wp2_with fail
  refine C1.out.mono ?_
  rintro e w3 ⟨rfl, hL, hF⟩
  have M1 : Hid (Mine w w3 (w.heap.size + 1 + 1) (w.heap.size + 1) 2 (Dk k) (Hj 0)) := Lib.hid (by
    have h := Mine.of_new (W := w) HS.out (by rw [World.size_alloc]; exact hL) hF
    rw [World.size_alloc] at h
    rwa [show (fun _ => 0 : Nat → Int) = Hj 0 from funext fun i => by simp [Hj]] at h)
  clear hL hF C1 HS hw0 hk h0
  go_wp2_with fail
  go_loopw [8] (fun i wr => ∃ j : Nat, j ≤ k ∧ i = .int .i64 j ∧ Mine w wr (w.heap.size + 1 + 1) (w.heap.size + 1) 2 (Dk k) (Hj j)) (fun i _ => k - (intOf i).toNat)
  case atStart => exact ⟨0, Nat.zero_le _, rfl, M1.out⟩
  case round =>
    obtain ⟨j, hj, rfl, hM⟩ := hrel
    have M := Lib.hid hM; clear hM M1
    by_cases hlt : j < k
    · have hw1 : IntKind.i64.wrap ((k : Int) - (j : Int)) = (k : Int) - (j : Int) := by rw [IntKind.wrap_i64]; omega
      have hw2 : IntKind.i64.wrap ((k : Int) - (j : Int) + 1) = (k : Int) - (j : Int) + 1 := by rw [IntKind.wrap_i64]; omega
      have T := Lib.hid (take1 k j (by omega))
      go_wp2_with fail
      refine (hasM w _ _ 2 (Dk k) (Hj j) _ 2 2 [3, (k : Int) - (j : Int)] _ (M.out.still ((Foot.refl (fun _ => False) wr).alloc _)) (r := true) (met1 k j) (two_in wr _ _) (by omega)).mono ?_
      rintro e w4 ⟨rfl, hM⟩
      have M4 := Lib.hid hM; clear hM M
      go_wp2_with fail
      refine (hasM w _ _ 2 (Dk k) (Hj j) _ 2 2 [0, (k : Int) - (j : Int) + 1] _ (M4.out.still ((Foot.refl (fun _ => False) w4).alloc _)) (r := false) (met2 k j) (two_in w4 _ _) (by omega)).mono ?_
      rintro e w5 ⟨rfl, hM⟩
      have M5 := Lib.hid hM; clear hM M4
      go_wp2_with fail
      refine (take w _ _ 2 (Dk k) (Hj j) 1 w5 M5.out (r := 0) T.out.1).mono ?_
      rintro e w6 ⟨rfl, hM⟩
      rw [T.out.2] at hM
      have M6 := Lib.hid hM; clear hM M5
      go_wp2_with fail
      go_roundw
      case rel => exact ⟨j + 1, by omega, by go_num, by exact_mod_cast M6.out⟩
      case measure => simp [intOf]; omega
    · obtain rfl : j = k := by omega
      clear hlt
      obtain ⟨b, hb⟩ : ∃ b : Nat, a1 % ((j : Int) + 1) = b := ⟨(a1 % ((j : Int) + 1)).toNat, by have := Int.emod_nonneg a1 (show (j : Int) + 1 ≠ 0 by omega); omega⟩
      have hbj : b ≤ j := by have := Int.emod_lt_of_pos a1 (show (0 : Int) < (j : Int) + 1 by omega); omega
      have hj0 : ¬ (j : Int) + 1 = 0 := by omega
      have ht : Int.tmod a1 ((j : Int) + 1) = (b : Int) := by rw [Int.tmod_eq_emod_of_nonneg h1.1]; exact hb
      go_wp2_with fail
      clear hb ht hj0
      go_loopw [10] (fun i wr => ∃ d : Nat, d ≤ b ∧ i = .int .i64 d ∧ Mine w wr (w.heap.size + 1 + 1) (w.heap.size + 1) 2 (Dk j) (Hj ((j : Int) - d))) (fun i _ => b - (intOf i).toNat)
      case atStart => exact ⟨0, Nat.zero_le _, rfl, by simpa using M.out⟩
      case round =>
        obtain ⟨d, hd, rfl, hM⟩ := hrel
        have N := Lib.hid hM; clear hM M
        by_cases hlt : d < b
        · have T := Lib.hid (give1 ((j : Int) - d) (by omega))
          go_wp2_with fail
          refine (give w _ _ 2 (Dk j) (Hj ((j : Int) - d)) 1 _ N.out (r := 0) T.out.1).mono ?_
          rintro e w4 ⟨rfl, hM⟩
          rw [T.out.2] at hM
          have N4 := Lib.hid hM; clear hM N
          go_wp2_with fail
          go_roundw
          case rel => exact ⟨d + 1, by omega, by go_num, by rw [show (j : Int) - ((d + 1 : Nat) : Int) = (j : Int) - d - 1 by omega]; exact N4.out⟩
          case measure => simp [intOf]; omega
        · obtain rfl : d = b := by omega
          clear hlt
          have hw3 : IntKind.i64.wrap ((j : Int) - (d : Int)) = (j : Int) - (d : Int) := by rw [IntKind.wrap_i64]; omega
          have HR := Lib.hid (reset1 ((j : Int) - d))
          go_wp2_with fail
          refine (freeM w _ _ 2 (Dk j) (Hj ((j : Int) - d)) 1 _ N.out (r := d) (free1 j _ _ (by omega))).mono ?_
          rintro e w4 ⟨rfl, hM⟩
          have N4 := Lib.hid hM; clear hM N
          go_wp2_with fail
          refine (freeM w _ _ 2 (Dk j) (Hj ((j : Int) - d)) 0 _ N4.out (r := 3) (free0 j _)).mono ?_
          rintro e w5 ⟨rfl, hM⟩
          have N5 := Lib.hid hM; clear hM N4
          have CR := Lib.hid (reset w _ _ 2 (Dk j) (Hj ((j : Int) - d)) 1 _ N5.out)
          rw [HR.out.1, HR.out.2.1, HR.out.2.2] at CR
          go_wp2_with fail
          refine CR.out.mono ?_
          rintro e w6 ⟨rfl, hM⟩
          have N6 := Lib.hid hM; clear hM N5 CR
          go_wp2_with fail
          refine (give w _ _ 2 (Dk j) (Hj 0) 1 _ N6.out (r := 9) give0.1).mono ?_
          rintro e w7 ⟨rfl, hM⟩
          rw [give0.2] at hM
          have N7 := Lib.hid hM; clear hM N6
          go_wp2_with fail
          refine (freeM w _ _ 2 (Dk j) (Hj 0) 1 _ N7.out (r := j) (free1 j _ _ (by omega))).mono ?_
          rintro e w8 ⟨rfl, hM⟩
          have HB := Lib.hid hM.below; clear hM N7
          go_wp2_with fail
          refine (known _).mono ?_
          rintro e w9 ⟨rfl, hb⟩
          have HB9 := Lib.hid (HB.out.trans (hb.mono HB.out.size))
          clear hb
          go_wp2_with fail
          go_ret
          exact ⟨rfl, HB9.out⟩

set_option maxRecDepth 100000 in
theorem lifted (os : Os) (started : os.Started) (H : Type) (enc : TypeId × Value → H) :
    ReturnsInHanded {} Try.checked os 5 .any (Rows.ledgerDrainsSpec.pre6 enc Try.prog Try.f5 Rows.ledgerDrainsRow.domain false) (Rows.ledgerDrainsSpec.post enc Try.prog Try.f5 false true false false) := by
  refine returnsInHanded_of_change (C := Try.checked) own started (by kernel_rfl) Try.func5
    (ChangeSpec.witness6 (enc := enc) (C := Try.checked) false ⟨#[], #[.int .u8 0, .int .u8 0], []⟩ 8 (by kernel_rfl) (by kernel_rfl) (by kernel_rfl) (by kernel_rfl)) ?_
  intro W base args ds gs before hval0 hW hcnd _
  have hval : ∀ (j : Nat) t v, Try.f5.params[j]? = some t → args[j]? = some v → Value.okWide Try.prog W .any base t v := hval0
  have hW' := hW
  obtain ⟨p, q, hA0, hV, rfl, hfz, hnd⟩ := hW
  have hA : DataW.TrodAll enc Try.prog W 0 (fun _ => true) true Try.f5.params.toList args.toList ds p := hA0
  rw [Try.params5] at hA hval
  obtain ⟨v0, vs0, d0, ds0, p0, q0, hargs, rfl, rfl, h0, r0⟩ := trodAll_cons hA
  obtain ⟨v1, vs1, d1, ds1, p1, q1, rfl, rfl, rfl, h1, r1⟩ := trodAll_cons r0
  obtain ⟨rfl, rfl, rfl⟩ := trodAll_nil r1
  obtain rfl : args = #[v0, v1] := by cases args; simp_all
  obtain ⟨rfl, rfl⟩ := trodVars_none hV
  obtain ⟨a0, rfl, rfl, rfl, w0⟩ := open_int Try.underlying5 (hval 0 5 v0 rfl rfl) h0
  obtain ⟨a1, rfl, rfl, rfl, w1⟩ := open_int Try.underlying5 (hval 1 5 v1 rfl rfl) h1
  clear hA0 hval0
  refine (walk a0 a1 W w0 w1).mono fun e W' ⟨he, bel⟩ => ?_
  subst he
  exact ⟨_, rfl, _, _, _, [], _, [], hW', trodAll_mk1 (shut_bool Try.underlying4 _), (trodAll_cons_mk (shut_int Try.underlying5 w0) (trodAll_cons_mk (shut_int Try.underlying5 w1) trodAll_mk0)), rfl, bel.frame _, fun h => by cases h⟩

theorem over : Rows.ledgerDrainsRow.holds Try.pinned (OpenSpec.ofChange Rows.ledgerDrainsSpec) :=
  OpenClaim.holds_of_wide 5 Try.f5 rfl rfl rfl rfl rfl rfl rfl ⟨rfl, rfl, rfl, rfl, rfl⟩ rfl rfl rfl rfl rfl (by kernel_rfl) Try.func5 (by kernel_rfl)
    (of_decide_eq_true (by kernel_rfl)) (by unfold Func.isWrapper; first | (rw [if_pos (by decide +kernel)]; kernel_rfl) | (rw [if_neg (by decide +kernel)]; exact ⟨rfl, rfl⟩))
    (fun os started H enc _ => lifted os started H enc)

theorem proved : Rows.LedgerDrainsSaid := over
#print axioms proved
end Go.Proofs.Ytjiagdooacieeaa.ledgerDrains
