/- Credits are kept of so many channels as the limit allows, of capacities in the range alone; New answers ErrArg otherwise; the chapter's example holds. No condition. -/
import Derived.Test.YtjiagdooacieeaaRows
import Derived.WalkKit
import Derived.ProofKit
import Derived.OpenShut
import Derived.ShutString
import Derived.ChangeOld
import Derived.Below
import Derived.Test.YtjiagdooacieeaaPair4
import Derived.Deep.OwnRows
namespace Go.Proofs.Ytjiagdooacieeaa.ledgerCaps
open Go.ChangeShapes Go.WideShapes Go.ChangeAt Go.RowKit
open Go.ChangeMaps (open_string shut_string)
set_option linter.unusedVariables false
set_option linter.unusedSimpArgs false

theorem own : ownKnob Try.prog.godebug = none := by kernel_rfl
theorem laidOut : laidOutB Try.prog = true := by kernel_rfl
open Led Mem

theorem info_int : (Try.prog.info? 3).map (fun i => (i.zero, i.size, i.bytes)) = some (some (.int .i64 0), 1, 8) := by kernel_rfl

/-- The law's own row of capacities, in its block. -/
structure RowAt (W w : World) (k : Nat) (zs : List Int) : Prop where
  len : zs.length = k
  at_ : At w W.heap.size 3 (zs.map (Value.int .i64)).toArray
  foot : Foot (fun _ => False) W w
theorem RowAt.made (W : World) (k : Nat) : RowAt W (W.alloc (.cells (madeCells #[.int .i64 0] k) 3)) k (List.replicate k 0) := by
  refine ⟨List.length_replicate, ?_, (Foot.refl _ W).alloc _⟩
  have h : ((List.replicate k (0 : Int)).map (Value.int .i64)).toArray = madeCells #[.int .i64 0] k := by
    apply Array.ext_getElem?
    intro i
    by_cases h : i < k
    · simp [madeCells, h, Nat.mod_one]
    · simp [madeCells, h]
  rw [h]
  exact At.new _ _ _
theorem RowAt.set {W w : World} {k : Nat} {zs : List Int} (h : RowAt W w k zs) (j : Nat) (x : Int) : RowAt W (w.setCell ⟨W.heap.size, j, none⟩ (.int .i64 x)) k (zs.set j x) := by
  refine ⟨by rw [List.length_set]; exact h.len, ?_, h.foot.setCell (p := ⟨W.heap.size, j, none⟩) (fun h => absurd h (by simp)) _⟩
  have h1 := h.at_.set j (.int .i64 x)
  rwa [List.setIfInBounds_toArray, ← List.map_set] at h1
theorem RowAt.cells {W w : World} {k : Nat} {zs : List Int} (h : RowAt W w k zs) {j : Nat} (hj : j < k) : w.cell? ⟨W.heap.size, j, none⟩ = some (.int .i64 (zs.getD j 0)) ∧ w.frozen? ⟨W.heap.size, j, none⟩ = false := by
  refine ⟨?_, h.at_.free j⟩
  rw [h.at_.cell j, List.getElem?_toArray, getD_map (by rw [h.len]; exact hj)]
theorem RowAt.reads {W w : World} {k : Nat} {zs : List Int} (h : RowAt W w k zs) : ReadsI w (some ⟨W.heap.size, 0, none⟩) k zs := by
  have := h.at_.reads
  rwa [h.len] at this
theorem getD_set_self {zs : List Int} {j : Nat} (h : j < zs.length) (x : Int) : (zs.set j x).getD j 0 = x := by simp [List.getD, h]
theorem getD_set_ne {zs : List Int} {i j : Nat} (h : i ≠ j) (x : Int) : (zs.set j x).getD i 0 = zs.getD i 0 := by simp [List.getD, List.getElem?_set_ne (Ne.symm h)]
theorem caps_next {zs : List Int} {j : Nat} (hj : j < zs.length) (h : CapsOk zs j) {x : Int} (hx : 1 ≤ x ∧ x ≤ 32) : CapsOk (zs.set j x) (j + 1) := fun i hi => by
  by_cases e : i = j
  · subst e; rw [getD_set_self hj]; exact hx
  · rw [getD_set_ne e]; exact h i (by omega)
theorem caps_set {zs : List Int} {k m : Nat} (hk : zs.length = k) (hm : m < k) (h : CapsOk zs k) (x : Int) : CapsOk (zs.set m x) k ↔ (1 ≤ x ∧ x ≤ 32) := by
  constructor
  · intro h1
    have := h1 m hm
    rwa [getD_set_self (by omega)] at this
  · intro hx i hi
    by_cases e : i = m
    · subst e; rw [getD_set_self (by omega)]; exact hx
    · rw [getD_set_ne e]; exact h i hi

set_option maxHeartbeats 4000000 in
set_option maxRecDepth 100000 in
theorem walk (a0 : Int) (a1 : Int) (a2 : Int) (w : World) (w0 : (Lit.int .u8 a0).wf = true) (w1 : (Lit.int .u8 a1).wf = true) (w2 : (Lit.int .i64 a2).wf = true) :
    Calls Try.prog 6 #[.int .u8 a0, .int .u8 a1, .int .i64 a2] w fun e w' => e = .returned (.bool true) ∧ Below w.heap.size w w' := by
  have h0 : 0 ≤ a0 ∧ a0 ≤ 255 := by
    simp [Lit.wf, IntKind.min, IntKind.max, IntKind.bits, IntKind.signed] at w0
    omega
  have h1 : 0 ≤ a1 ∧ a1 ≤ 255 := by
    simp [Lit.wf, IntKind.min, IntKind.max, IntKind.bits, IntKind.signed] at w1
    omega
  clear w0 w1 w2
  obtain ⟨k, hk⟩ : ∃ k : Nat, a0 % 40 = k := ⟨(a0 % 40).toNat, by omega⟩
  have hk40 : k < 40 := by omega
  have hmk := run_make_row' (P := Try.prog) 22 3 (.int .i64 0) 8 Try.underlying22 info_int rfl .i64 .i64 k (by omega) (by omega)
  have R0 := Lib.hid (RowAt.made w k)
  go_enter Try.func6, Try.ntmps6
  go_wp2_with fail
  rw [hk]
  clear hk
  go_loopw [9] (fun i wr => ∃ (j : Nat) (zs : List Int), j ≤ k ∧ i = .int .i64 j ∧ RowAt w wr k zs ∧ Hid (CapsOk zs j)) (fun i _ => k - (intOf i).toNat)
  case atStart => exact ⟨0, _, Nat.zero_le _, rfl, R0.out, Lib.hid fun i hi => absurd hi (by omega)⟩
  case round =>
    obtain ⟨j, zs, hj, rfl, hR, HC⟩ := hrel
    have R := Lib.hid hR; clear hR R0
    by_cases hlt : j < k
    · have hjk : (j : Int) < (k : Int) := by omega
      have hw : IntKind.i64.wrap (1 + (j : Int) % 32) = 1 + (j : Int) % 32 := by rw [IntKind.wrap_i64]; omega
      have hx : 1 ≤ 1 + (j : Int) % 32 ∧ 1 + (j : Int) % 32 ≤ 32 := by omega
      have HC1 := Lib.hid (caps_next (by rw [R.out.len]; exact hlt) HC.out hx)
      obtain ⟨c0, f0⟩ := R.out.cells hlt
      go_wp2_with fail
      go_roundw
      case rel => exact ⟨j + 1, _, by omega, by go_num, R.out.set j _, HC1⟩
      case measure => simp [intOf]; omega
    · obtain rfl : j = k := by omega
      clear hlt
      by_cases hz : j = 0
      · subst hz
        have C1 := Lib.hid (New_ok (some ⟨w.heap.size, 0, none⟩) 0 0 zs wr R.out.reads (by omega) HC.out)
        have HB := Lib.hid (R.out.foot.below (B := w.heap.size) (fun _ _ h => h.elim) (Nat.le_refl _))
        go_wp2_with fail
        refine C1.out.mono ?_
        rintro e w3 ⟨rfl, hL, hF⟩
        have HB3 := Lib.hid (Mine.of_new HB.out hL hF).below
        clear hL hF C1 HB
        go_wp2_with fail
        refine (known _).mono ?_
        rintro e w9 ⟨rfl, hb⟩
        have HB9 := Lib.hid (HB3.out.trans (hb.mono HB3.out.size))
        clear hb
        go_wp2_with fail
        go_ret
        exact ⟨rfl, HB9.out⟩
      · have hz1 : 0 < j := by omega
        have hz2 : (0 : Int) < (j : Int) := by omega
        have hz3 : ¬ (j : Int) = 0 := by omega
        obtain ⟨m, hm⟩ : ∃ m : Nat, a1 % (j : Int) = m := ⟨(a1 % (j : Int)).toNat, by have := Int.emod_nonneg a1 hz3; omega⟩
        have hmj : (m : Int) < (j : Int) := by rw [← hm]; exact Int.emod_lt_of_pos _ hz2
        have hmj' : m < j := by omega
        have ht : Int.tmod a1 (j : Int) = (m : Int) := by rw [Int.tmod_eq_emod_of_nonneg h1.1]; exact hm
        obtain ⟨c0, f0⟩ := R.out.cells hmj'
        have R1 := Lib.hid (R.out.set m a2)
        have HS := Lib.hid (caps_set (zs := zs) R.out.len hmj' HC.out a2)
        by_cases hg : j ≤ 24 ∧ 1 ≤ a2 ∧ a2 ≤ 32
        · obtain ⟨g0, g1, g2⟩ := hg
          have C1 := Lib.hid (New_ok (some ⟨w.heap.size, 0, none⟩) j j _ _ R1.out.reads g0 (HS.out.2 ⟨g1, g2⟩))
          have HB := Lib.hid (R1.out.foot.below (B := w.heap.size) (fun _ _ h => h.elim) (Nat.le_refl _))
          have g0' : (j : Int) ≤ 24 := by omega
          clear HS
          go_wp2_with fail
          refine C1.out.mono ?_
          rintro e w3 ⟨rfl, hL, hF⟩
          have HB3 := Lib.hid (Mine.of_new HB.out hL hF).below
          clear hL hF C1 HB
          go_wp2_with fail
          refine (known _).mono ?_
          rintro e w9 ⟨rfl, hb⟩
          have HB9 := Lib.hid (HB3.out.trans (hb.mono HB3.out.size))
          clear hb
          go_wp2_with fail
          go_ret
          exact ⟨rfl, HB9.out⟩
        · have hno : NoCaps (zs.set m a2) j := by
            by_cases h24 : 24 < j
            · exact .inl h24
            · exact .inr fun h => hg ⟨by omega, HS.out.1 h⟩
          have C1 := Lib.hid (New_no (some ⟨w.heap.size, 0, none⟩) j j _ _ R1.out.reads (by omega) hno)
          have HB := Lib.hid (R1.out.foot.below (B := w.heap.size) (fun _ _ h => h.elim) (Nat.le_refl _))
          have ho : 24 < (j : Int) ∨ (j : Int) ≤ 24 ∧ a2 < 1 ∨ (j : Int) ≤ 24 ∧ 1 ≤ a2 ∧ decide (a2 ≤ 32) = false := by rw [decide_eq_false_iff_not]; omega
          clear HS hg hno
          rcases ho with ho | ⟨ho, ho1⟩ | ⟨ho, ho1, ho2⟩
          all_goals
            go_wp2_with fail
            refine C1.out.mono ?_
            rintro e w3 ⟨rfl, hF⟩
            have HB3 := Lib.hid (HB.out.trans (hF.below (fun _ _ h => h.elim) HB.out.size))
            clear hF C1 HB
            go_wp2_with fail
            refine (known _).mono ?_
            rintro e w9 ⟨rfl, hb⟩
            have HB9 := Lib.hid (HB3.out.trans (hb.mono HB3.out.size))
            clear hb
            go_wp2_with fail
            go_ret
            exact ⟨rfl, HB9.out⟩

set_option maxRecDepth 100000 in
theorem lifted (os : Os) (started : os.Started) (H : Type) (enc : TypeId × Value → H) :
    ReturnsInHanded {} Try.checked os 6 .any (Rows.ledgerCapsSpec.pre6 enc Try.prog Try.f6 Rows.ledgerCapsRow.domain false) (Rows.ledgerCapsSpec.post enc Try.prog Try.f6 false true false false) := by
  refine returnsInHanded_of_change (C := Try.checked) own started (by kernel_rfl) Try.func6
    (ChangeSpec.witness6 (enc := enc) (C := Try.checked) false ⟨#[], #[.int .u8 0, .int .u8 0, .int .i64 0], []⟩ 8 (by kernel_rfl) (by kernel_rfl) (by kernel_rfl) (by kernel_rfl)) ?_
  intro W base args ds gs before hval0 hW hcnd _
  have hval : ∀ (j : Nat) t v, Try.f6.params[j]? = some t → args[j]? = some v → Value.okWide Try.prog W .any base t v := hval0
  have hW' := hW
  obtain ⟨p, q, hA0, hV, rfl, hfz, hnd⟩ := hW
  have hA : DataW.TrodAll enc Try.prog W 0 (fun _ => true) true Try.f6.params.toList args.toList ds p := hA0
  rw [Try.params6] at hA hval
  obtain ⟨v0, vs0, d0, ds0, p0, q0, hargs, rfl, rfl, h0, r0⟩ := trodAll_cons hA
  obtain ⟨v1, vs1, d1, ds1, p1, q1, rfl, rfl, rfl, h1, r1⟩ := trodAll_cons r0
  obtain ⟨v2, vs2, d2, ds2, p2, q2, rfl, rfl, rfl, h2, r2⟩ := trodAll_cons r1
  obtain ⟨rfl, rfl, rfl⟩ := trodAll_nil r2
  obtain rfl : args = #[v0, v1, v2] := by cases args; simp_all
  obtain ⟨rfl, rfl⟩ := trodVars_none hV
  obtain ⟨a0, rfl, rfl, rfl, w0⟩ := open_int Try.underlying5 (hval 0 5 v0 rfl rfl) h0
  obtain ⟨a1, rfl, rfl, rfl, w1⟩ := open_int Try.underlying5 (hval 1 5 v1 rfl rfl) h1
  obtain ⟨a2, rfl, rfl, rfl, w2⟩ := open_int Try.underlying3 (hval 2 3 v2 rfl rfl) h2
  clear hA0 hval0
  refine (walk a0 a1 a2 W w0 w1 w2).mono fun e W' ⟨he, bel⟩ => ?_
  subst he
  exact ⟨_, rfl, _, _, _, [], _, [], hW', trodAll_mk1 (shut_bool Try.underlying4 _), (trodAll_cons_mk (shut_int Try.underlying5 w0) (trodAll_cons_mk (shut_int Try.underlying5 w1) (trodAll_cons_mk (shut_int Try.underlying3 w2) trodAll_mk0))), rfl, bel.frame _, fun h => by cases h⟩

theorem over : Rows.ledgerCapsRow.holds Try.pinned (OpenSpec.ofChange Rows.ledgerCapsSpec) :=
  OpenClaim.holds_of_wide 6 Try.f6 rfl rfl rfl rfl rfl rfl rfl ⟨rfl, rfl, rfl, rfl, rfl⟩ rfl rfl rfl rfl rfl (by kernel_rfl) Try.func6 (by kernel_rfl)
    (of_decide_eq_true (by kernel_rfl)) (by unfold Func.isWrapper; first | (rw [if_pos (by decide +kernel)]; kernel_rfl) | (rw [if_neg (by decide +kernel)]; exact ⟨rfl, rfl⟩))
    (fun os started H enc _ => lifted os started H enc)

theorem proved : Rows.LedgerCapsSaid := over
#print axioms proved
end Go.Proofs.Ytjiagdooacieeaa.ledgerCaps
