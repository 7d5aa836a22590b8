/- For any byte string, the tokens or the first error that lex.All answers agree with the reference's, and the chapter's examples hold. No condition; the variables of strconv and math/bits are laid as their initialisers lay them (tied). -/
import Derived.Test.YthcifjehglgicaaDoorRows
import Derived.WalkKit
import Derived.ProofKit
import Derived.OpenShut
import Derived.ShutString
import Derived.ChangeOld
import Derived.Below
import Derived.Test.YthcifjehglgicaaDoorLexK
import Derived.Test.YthcifjehglgicaaDoorCards
import Derived.Test.YthcifjehglgicaaDoorTie
import Derived.Test.YthcifjehglgicaaDoorTabL
import Derived.SevenTiedAt
import Derived.LaidMore
import Derived.Stop.Joined
namespace Go.Proofs.YthcifjehglgicaaDoor.lexTells
open Go.ChangeShapes Go.WideShapes Go.ChangeAt Go.RowKit
open Go.ChangeMaps (open_string shut_string)
set_option linter.unusedVariables false
set_option linter.unusedSimpArgs false

open Go.Proofs.YthcifjehglgicaaDoor.Lex (listed door_met of_laid)
theorem own : ownKnob Tryd.prog.godebug = none := by kernel_rfl
theorem laidOut : laidOutB Tryd.prog = true := by kernel_rfl
open Lex Mem

set_option maxHeartbeats 1000000 in
theorem walk (a0 : ByteArray) (w : World) (w0 : a0.size ≤ maxLen) (hT : Vars w) :
    Calls Tryd.prog 3 #[.string a0] w fun e w' => e = .returned (.bool true) ∧ Below w.heap.size w w' := by
  have hs : a0.size ≤ 9223372036854775807 := by unfold maxLen at w0; omega
  have HV := Lib.hid hT
  clear w0 hT
  by_cases h1 : 4000 < a0.size ∧ a0.size ≤ 16384
  · obtain ⟨h2, h3⟩ := h1
    have h4 : (4000 : Int) < a0.size := by omega
    have h5 : (a0.size : Int) ≤ 16384 := by omega
    clear h2 h3
    go_enter Tryd.func3, Tryd.ntmps3
    go_wp2_with fail
    refine (known _ HV.out).mono ?_
    rintro e w1 ⟨rfl, hf⟩
    have HF := Lib.hid hf
    clear hf
    go_wp2_with fail
    go_ret
    exact ⟨rfl, HF.out.below (fun _ _ h => h.elim) (Nat.le_refl _)⟩
  · have C1 := fun W hW => All_c a0 W hs hW
    have C2 := fun W hW => rAll_c a0 W hs hW
    have hlen := bs_len a0
    have hol : (outcome (bs a0)).1.length ≤ 1000000 := outcome_len (bs a0)
    generalize hR : outcome (bs a0) = R at hol
    obtain ⟨ts, c1, c2⟩ := R
    have HR := Lib.hid hR
    simp only at hol
    generalize hn : ts.length = n at hol
    have HN := Lib.hid hn
    clear hR hn hlen
    by_cases h2 : 4000 < a0.size
    · have h3 : (4000 : Int) < a0.size := by omega
      have h4 : ¬ (a0.size : Int) ≤ 16384 := by omega
      clear h1 h2
      go_enter Tryd.func3, Tryd.ntmps3
      go_wp2_with fail
      refine (C1 _ HV.out).mono ?_
      rintro e w1 ⟨hf, a1, d1, rfl, hi⟩
      rw [HR.out, HN.out] at hi ⊢
      have hfa := hf.alloc (.cells #[.int .i64 c1, .int .i64 c2] 26)
      have HF1 := Lib.hid hfa
      have HI1 := Lib.hid (hi.alloc (.cells #[.int .i64 c1, .int .i64 c2] 26))
      have HA1 := Lib.hid (At.new w1 26 #[.int .i64 c1, .int .i64 c2])
      clear hi hf hfa C1
      go_wp2_with fail
      generalize w1.alloc (.cells #[.int .i64 c1, .int .i64 c2] 26) = W1 at *
      refine (C2 _ (HV.out.keep HF1.out)).mono ?_
      rintro e w2 ⟨hf, a2, d2, rfl, hi⟩
      rw [HR.out, HN.out] at hi ⊢
      have hfa := hf.alloc (.cells #[.int .i64 c1, .int .i64 c2] 26)
      have HF2 := Lib.hid (HF1.out.trans hfa fun _ _ h => h)
      have HI2 := Lib.hid (hi.alloc (.cells #[.int .i64 c1, .int .i64 c2] 26))
      have HI12 := Lib.hid (HI1.out.keep hfa fun _ _ => id)
      have HA2 := Lib.hid (At.new w2 26 #[.int .i64 c1, .int .i64 c2])
      have HA12 := Lib.hid (HA1.out.keep hfa id)
      clear hi hf hfa C2 HF1 HI1 HA1
      go_wp2_with fail
      generalize w2.alloc (.cells #[.int .i64 c1, .int .i64 c2] 26) = W2 at *
      refine (same_c _ a1 a2 n d1 d2 ts HN.out hol HI12.out HI2.out).mono ?_
      rintro e w3 ⟨rfl, hf⟩
      have HF3 := Lib.hid (HF2.out.trans hf fun _ _ h => h)
      have hA := HA12.out.keep hf id
      have hB := HA2.out.keep hf id
      have p0 : w3.cell? ⟨w1.heap.size, 0, none⟩ = some (.int .i64 c1) := hA.cell 0
      have p1 : w3.cell? ⟨w1.heap.size, 1, none⟩ = some (.int .i64 c2) := hA.cell 1
      have p2 : w3.cell? ⟨w2.heap.size, 0, none⟩ = some (.int .i64 c1) := hB.cell 0
      have p3 : w3.cell? ⟨w2.heap.size, 1, none⟩ = some (.int .i64 c2) := hB.cell 1
      clear hA hB hf HF2 HI12 HI2 HA12 HA2
      go_wp2_with fail
      refine (known _ (HV.out.keep HF3.out)).mono ?_
      rintro e w4 ⟨rfl, hf⟩
      have HF := Lib.hid (HF3.out.trans hf fun _ _ h => h)
      clear hf HF3
      go_wp2_with fail
      go_ret
      exact ⟨rfl, HF.out.below (fun _ _ h => h.elim) (Nat.le_refl _)⟩
    · have h3 : ¬ (4000 : Int) < a0.size := by omega
      clear h1 h2
      go_enter Tryd.func3, Tryd.ntmps3
      go_wp2_with fail
      refine (C1 _ HV.out).mono ?_
      rintro e w1 ⟨hf, a1, d1, rfl, hi⟩
      rw [HR.out, HN.out] at hi ⊢
      have hfa := hf.alloc (.cells #[.int .i64 c1, .int .i64 c2] 26)
      have HF1 := Lib.hid hfa
      have HI1 := Lib.hid (hi.alloc (.cells #[.int .i64 c1, .int .i64 c2] 26))
      have HA1 := Lib.hid (At.new w1 26 #[.int .i64 c1, .int .i64 c2])
      clear hi hf hfa C1
      go_wp2_with fail
      generalize w1.alloc (.cells #[.int .i64 c1, .int .i64 c2] 26) = W1 at *
      refine (C2 _ (HV.out.keep HF1.out)).mono ?_
      rintro e w2 ⟨hf, a2, d2, rfl, hi⟩
      rw [HR.out, HN.out] at hi ⊢
      have hfa := hf.alloc (.cells #[.int .i64 c1, .int .i64 c2] 26)
      have HF2 := Lib.hid (HF1.out.trans hfa fun _ _ h => h)
      have HI2 := Lib.hid (hi.alloc (.cells #[.int .i64 c1, .int .i64 c2] 26))
      have HI12 := Lib.hid (HI1.out.keep hfa fun _ _ => id)
      have HA2 := Lib.hid (At.new w2 26 #[.int .i64 c1, .int .i64 c2])
      have HA12 := Lib.hid (HA1.out.keep hfa id)
      clear hi hf hfa C2 HF1 HI1 HA1
      go_wp2_with fail
      generalize w2.alloc (.cells #[.int .i64 c1, .int .i64 c2] 26) = W2 at *
      refine (same_c _ a1 a2 n d1 d2 ts HN.out hol HI12.out HI2.out).mono ?_
      rintro e w3 ⟨rfl, hf⟩
      have HF3 := Lib.hid (HF2.out.trans hf fun _ _ h => h)
      have hA := HA12.out.keep hf id
      have hB := HA2.out.keep hf id
      have p0 : w3.cell? ⟨w1.heap.size, 0, none⟩ = some (.int .i64 c1) := hA.cell 0
      have p1 : w3.cell? ⟨w1.heap.size, 1, none⟩ = some (.int .i64 c2) := hA.cell 1
      have p2 : w3.cell? ⟨w2.heap.size, 0, none⟩ = some (.int .i64 c1) := hB.cell 0
      have p3 : w3.cell? ⟨w2.heap.size, 1, none⟩ = some (.int .i64 c2) := hB.cell 1
      clear hA hB hf HF2 HI12 HI2 HA12 HA2
      go_wp2_with fail
      refine (known _ (HV.out.keep HF3.out)).mono ?_
      rintro e w4 ⟨rfl, hf⟩
      have HF := Lib.hid (HF3.out.trans hf fun _ _ h => h)
      clear hf HF3
      go_wp2_with fail
      go_ret
      exact ⟨rfl, HF.out.below (fun _ _ h => h.elim) (Nat.le_refl _)⟩

set_option maxRecDepth 100000 in
theorem lifted (os : Os) (started : os.Started) (H : Type) (enc : TypeId × Value → H) :
    ReturnsInHanded {} Tryd.checked os 3 .any (fun w args => (Rows.lexTellsSpec.pre enc Tryd.prog Tryd.f3 [] false w args ∧ laidMetH Tryd.prog listed w) ∧ sizedMet enc Tryd.prog Tryd.f3 (OpenSpec.ofChange Rows.lexTellsSpec) false w args) (Rows.lexTellsSpec.post enc Tryd.prog Tryd.f3 false true false false) := by
  refine returnsInHanded_of_change_and (C := Tryd.checked) (X := fun w _ => laidMetH Tryd.prog listed w) (fun _ _ _ hh h => h.of_heap hh) own started (by kernel_rfl) Tryd.func3
    (ChangeSpec.witness_shaped (enc := enc) (C := Tryd.checked) (os := os) (X := fun w _ => laidMetH Tryd.prog listed w) false (World.doorLaid Tryd.prog 400 os) #[.string ⟨#[]⟩] 8 rfl (World.shaped_of_RefB (by kernel_rfl) (by kernel_rfl)) (by kernel_rfl) (by kernel_rfl) (by kernel_rfl) (door_met os _)) ?_
  intro W base args ds gs before hval0 hW _ _ hL _
  have tab := of_laid hL
  have hval : ∀ (j : Nat) t v, Tryd.f3.params[j]? = some t → args[j]? = some v → Value.okWide Tryd.prog W .any base t v := hval0
  have hW' := hW
  obtain ⟨p, q, hA0, hV, rfl, hfz, hnd⟩ := hW
  have hA : DataW.TrodAll enc Tryd.prog W 0 (fun _ => true) true Tryd.f3.params.toList args.toList ds p := hA0
  rw [Tryd.params3] at hA hval
  obtain ⟨v0, vs0, d0, ds0, p0, q0, hargs, rfl, rfl, h0, r0⟩ := trodAll_cons hA
  obtain ⟨rfl, rfl, rfl⟩ := trodAll_nil r0
  obtain rfl : args = #[v0] := by cases args; simp_all
  obtain ⟨rfl, rfl⟩ := trodVars_none hV
  obtain ⟨a0, rfl, rfl, rfl, w0⟩ := open_string Tryd.underlying9 (hval 0 9 v0 rfl rfl) h0
  clear hA0 hval0
  refine (walk a0 W w0 tab).mono fun e W' ⟨he, bel⟩ => ?_
  subst he
  exact ⟨_, rfl, _, _, _, [], _, [], hW', trodAll_mk1 (shut_bool Tryd.underlying4 _), (trodAll_cons_mk (shut_string Tryd.underlying9 w0) trodAll_mk0), rfl, bel.frame _, fun h => by cases h⟩

theorem over : Rows.lexTellsRow.holds Tryd.pinned (OpenSpec.ofChange Rows.lexTellsSpec) :=
  OpenClaim.holds_of_wide 3 Tryd.f3 rfl rfl rfl rfl rfl rfl rfl ⟨rfl, rfl, rfl, rfl, rfl⟩ rfl rfl rfl rfl rfl (by kernel_rfl) Tryd.func3 (by kernel_rfl)
    (of_decide_eq_true (by kernel_rfl)) (by unfold Func.isWrapper; first | (rw [if_pos (by decide +kernel)]; kernel_rfl) | (rw [if_neg (by decide +kernel)]; exact ⟨rfl, rfl⟩))
    (fun os started H enc _ => lifted os started H enc)

theorem proved : Rows.LexTellsCardSaid :=
  Claim7.holds_tied_plain_at .later [] [.data, .data, .data, .sentinel, .sentinel] true (true, "4475519d43f7e576d893d05a793f837ffc487e2514522fc70b7312a4c9c61309") true
    over (fun _ h => by cases h) (by kernel_rfl) (fun _ h => by cases h) lexTells_row_tie rfl ⟨rfl, rfl⟩ (by kernel_rfl) rfl
    (fun f fn hf hfn => by
      obtain rfl : f = 3 := Option.some.inj ((show Tryd.prog.funcNamed Tryd.f3.name = some 3 by kernel_rfl).symm.trans hf) |>.symm
      obtain rfl : fn = Tryd.f3 := (Option.some.inj (Tryd.func3.symm.trans hfn)).symm
      exact ⟨by kernel_rfl, fun j t ht => by
        rw [Tryd.params3] at ht
        have hm : t ∈ [9] := by simpa using Array.mem_of_getElem? ht
        have hall : ([9].all fun u => !Tryd.prog.wantsStandIn u) = true := by kernel_rfl
        exact (show Tryd.prog.wantsStandIn t = false by simpa using List.all_eq_true.1 hall t hm)⟩)
    (by kernel_rfl)
#print axioms proved
end Go.Proofs.YthcifjehglgicaaDoor.lexTells
