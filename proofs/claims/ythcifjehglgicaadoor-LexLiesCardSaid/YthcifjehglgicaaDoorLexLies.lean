/- Tokens are in source order, do not overlap, and each has the text that stands at its place; only white space and comments lie between them, and a fault's place lies within the text; the chapter's examples hold. No condition; the variables of strconv and math/bits are laid as their initialisers lay them (tied). -/
import Derived.Test.YthcifjehglgicaaDoorRows
import Derived.WalkKit
import Derived.ProofKit
import Derived.OpenShut
import Derived.ShutString
import Derived.ChangeOld
import Derived.Below
import Derived.Test.YthcifjehglgicaaDoorLexL
import Derived.Test.YthcifjehglgicaaDoorCards
import Derived.Test.YthcifjehglgicaaDoorTie
import Derived.Test.YthcifjehglgicaaDoorTabL
import Derived.SevenTiedAt
import Derived.LaidMore
import Derived.Stop.Joined
namespace Go.Proofs.YthcifjehglgicaaDoor.lexLies
open Go.ChangeShapes Go.WideShapes Go.ChangeAt Go.RowKit
open Go.ChangeMaps (open_string shut_string)
set_option linter.unusedVariables false
set_option linter.unusedSimpArgs false

open Go.Proofs.YthcifjehglgicaaDoor.Lex (listed door_met of_laid)
theorem own : ownKnob Tryd.prog.godebug = none := by kernel_rfl
theorem laidOut : laidOutB Tryd.prog = true := by kernel_rfl
open Lex Mem

set_option maxHeartbeats 2000000 in
set_option maxRecDepth 100000 in
theorem walk (a0 : ByteArray) (w : World) (w0 : a0.size ≤ maxLen) (hT : Vars w) :
    Calls Tryd.prog 6 #[.string a0] w fun e w' => e = .returned (.bool true) ∧ Below w.heap.size w w' := by
  have hs : a0.size ≤ 9223372036854775807 := by unfold maxLen at w0; omega
  have HV := Lib.hid hT
  clear w0 hT
  by_cases h1 : 2000 < a0.size
  · have h4 : (2000 : Int) < a0.size := by omega
    clear h1
    go_enter Tryd.func6, Tryd.ntmps6
    go_wp2_with fail
    refine (known _ HV.out).mono ?_
    rintro e w1 ⟨rfl, hf⟩
    have HF := Lib.hid hf
    clear hf
    go_wp2_with fail
    go_ret
    exact ⟨rfl, HF.out.below (fun _ _ h => h.elim) (Nat.le_refl _)⟩
  · have hs2 : a0.size ≤ 2000 := by omega
    have h4 : ¬ (2000 : Int) < a0.size := by omega
    have C1 := fun W hW => All_c a0 W hs hW
    have hlen := bs_len a0
    have hl := lies (bs a0) (by omega)
    have hol := outcome_len (bs a0)
    clear h1
    rcases hl with ⟨ts, hR, hfull⟩ | ⟨e0, a, hR, he, ha0, ha1⟩
    · have HR := Lib.hid hR
      have HFull := Lib.hid hfull
      have HL := Lib.hid hlen
      rw [hR] at hol
      simp only at hol
      generalize hn : ts.length = n at hol
      have HN := Lib.hid hn
      clear hR hfull hlen hn
      go_enter Tryd.func6, Tryd.ntmps6
      go_wp2_with fail
      refine (C1 _ HV.out).mono ?_
      rintro e w1 ⟨hf, a, c, rfl, hi⟩
      rw [HR.out, HN.out] at hi ⊢
      have hfa := hf.alloc (.cells #[.int .i64 0, .int .i64 0] 26)
      have HF1 := Lib.hid hfa
      have HI1 := Lib.hid (hi.alloc (.cells #[.int .i64 0, .int .i64 0] 26))
      have HA1 := Lib.hid (At.new w1 26 #[.int .i64 0, .int .i64 0])
      clear hi hf hfa C1
      go_wp2_with fail
      generalize w1.alloc (.cells #[.int .i64 0, .int .i64 0] 26) = W1 at *
      go_loopw [5, 6] (fun v i wr => ∃ k p : Nat, i = .int .i64 k ∧ v = .int .i64 p ∧ k ≤ n ∧ p ≤ a0.size ∧ Hid ((ts.drop k = [] ∧ p = a0.size) ∨ Full (bs a0) p (ts.drop k)) ∧ Hid (Foot (fun _ => False) W1 wr)) (fun _ i _ => n - (intOf i).toNat)
      case atStart => exact ⟨0, 0, rfl, rfl, Nat.zero_le _, Nat.zero_le _, Lib.hid (.inr (by rw [List.drop_zero]; exact HFull.out)), Lib.hid (Foot.refl _ _)⟩
      case round =>
        obtain ⟨k, p, rfl, rfl, hk, hp, HU, HF⟩ := hrel
        have HFr := Lib.hid (HF1.out.trans HF.out fun _ _ h => h)
        by_cases hlt : k < n
        · have hkl : k < ts.length := by rw [HN.out]; exact hlt
          have hdr : ts.drop k = ts[k] :: ts.drop (k + 1) := List.drop_eq_getElem_cons hkl
          have hdl : (ts.drop (k + 1)).length = n - (k + 1) := by rw [List.length_drop, HN.out]
          have hfu : Full (bs a0) p (ts[k] :: ts.drop (k + 1)) := by
            rcases HU.out with h | h
            · rw [hdr] at h; exact absurd h.1 (List.cons_ne_nil _ _)
            · rw [hdr] at h; exact h
          obtain ⟨⟨f1, f2, f3, f4, m0, f5⟩, f6⟩ := hfu
          obtain ⟨g, off, rfl, c0, c1, c2, c3, c4⟩ := tok_cells (HI1.out.keep HF.out fun _ _ => id) HN.out hlt
          have HU2 : Hid ((ts.drop (k + 1) = [] ∧ (ts[k]).en = a0.size) ∨ Full (bs a0) (ts[k]).en (ts.drop (k + 1))) := Lib.hid (by
            rcases f6 with ⟨x1, _, x3⟩ | ⟨_, _, x3⟩
            · exact .inl ⟨x1, by rw [x3, HL.out]⟩
            · exact .inr x3)
          obtain ⟨b, e3, e4⟩ : ∃ b, ((ts[k]).kind == 4) = b ∧ ((k : Int) == (n : Int) - 1) = b := by
            refine ⟨_, ?_, rfl⟩
            rw [Bool.eq_iff_iff, beq_iff_eq, beq_iff_eq]
            rcases f6 with ⟨x1, x2, _⟩ | ⟨x1, x2, _⟩
            · rw [x1] at hdl
              simp at hdl
              exact ⟨fun _ => by omega, fun _ => x2⟩
            · have : (ts.drop (k + 1)).length ≠ 0 := fun h => x1 (List.eq_nil_of_length_eq_zero h)
              exact ⟨fun h => absurd h x2, fun h => by omega⟩
          rw [HL.out] at f3
          generalize ts[k] = t at *
          obtain ⟨kd, A, E, tx, nn⟩ := t
          simp only [strV] at f1 f2 f3 f4 f5 c0 c1 c2 c3 c4 e3 HU2
          obtain ⟨q1, hq1, hq1s, hq1l⟩ := piece a0 A (E - A) (by omega)
          have hq1 : bs q1 = tx := by rw [hq1, f4]
          have hq1l := fun W => hq1l W E (by rw [show A + (E - A) = E by omega])
          obtain ⟨q2, hq2, hq2s, hq2l⟩ := piece a0 p (A - p) (by omega)
          have hq2l := fun W => hq2l W A (by rw [show p + (A - p) = A by omega])
          have C2 := fun W hW => All_c q2 W (by omega) hW
          rw [← hq2] at f5
          have HO2 := Lib.hid f5
          have e1 : (q1.toList == tx) = true := by rw [toList_bs, hq1]; exact beq_self_eq_true _
          have e2 : (q1.toList != tx) = false := by rw [bne, e1]; rfl
          have hwn : IntKind.i64.wrap ((n : Int) - 1) = (n : Int) - 1 := by rw [IntKind.wrap_i64]; omega
          have n1 : ¬ A < p := by omega
          have n2 : ¬ E < A := by omega
          have n3 : ¬ a0.size < E := by omega
          have d1 : decide ((A : Int) < p) = false := decide_eq_false (by omega)
          have d2 : decide ((E : Int) < A) = false := decide_eq_false (by omega)
          have d3 : decide ((a0.size : Int) < E) = false := decide_eq_false (by omega)
          clear hq1 hq2 f5 f4 f6 hdr hdl hkl HU HFull
          go_wp2_with fail
          go_quiet (fail)
          go_wp2_with fail
          have HT2 := Lib.hid ((At.new wr 36 #[.int .i64 kd, .int .i64 A, .int .i64 E, .string ⟨tx.toArray⟩, .int .i64 nn]).drewN nq)
          have HF2 := Lib.hid ((HF.out.alloc (.cells #[.int .i64 kd, .int .i64 A, .int .i64 E, .string ⟨tx.toArray⟩, .int .i64 nn] 36)).drewN nq)
          generalize (wr.alloc (.cells #[.int .i64 kd, .int .i64 A, .int .i64 E, .string ⟨tx.toArray⟩, .int .i64 nn] 36)).drewN nq = w2 at *
          refine (C2 _ (HV.out.keep (HF1.out.trans HF2.out fun _ _ h => h))).mono ?_
          rintro e w3 ⟨hf, a3, x3, rfl, hx3⟩
          clear hx3
          have hm := HO2.out
          rw [hm]
          have hT3 := HT2.out.keep hf id
          have hlt3 := hT3.lt
          have p2 : w3.cell? ⟨wr.heap.size, 2, none⟩ = some (.int .i64 E) := hT3.cell 2
          have HF3 := Lib.hid ((HF2.out.trans hf fun _ _ h => h).alloc (.cells #[.int .i64 0, .int .i64 0] 26))
          clear hf hT3 hm C2 HO2 HT2 HF2 e1 e2 e3 e4 hwn n1 n2 n3 d1 d2 d3 hq1l hq2l c0 c1 c2 c3 c4
          clear hq1 hq1s hq1l hq2s hq2l f1
          simp only [List.length_cons, List.length_nil]
          go_wp2_with fail
          refine ⟨⟨k + 1, E, by go_num, rfl, by omega, by omega, HU2, HF3⟩, ?_⟩
          simp only [intOf]
          omega
        · obtain rfl : k = n := by omega
          have hpe : p = a0.size := by
            rcases HU.out with h | h
            · exact h.2
            · rw [List.drop_of_length_le (by rw [HN.out]; exact Nat.le_refl _)] at h
              exact absurd h id
          have hpos : 0 < k := by
            have h := HFull.out
            rcases Nat.eq_zero_or_pos k with h0 | h0
            · subst h0
              rw [List.eq_nil_of_length_eq_zero HN.out] at h
              exact absurd h id
            · exact h0
          have hpos2 : (0 : Int) < k := by omega
          subst hpe
          clear HU HFull
          go_wp2_with fail
          refine (known _ (HV.out.keep HFr.out)).mono ?_
          rintro e w4 ⟨rfl, hf⟩
          have HFF := Lib.hid (HFr.out.trans hf fun _ _ h => h)
          clear hf
          go_wp2_with fail
          go_ret
          exact ⟨rfl, HFF.out.below (fun _ _ h => h.elim) (Nat.le_refl _)⟩
    · have HR := Lib.hid hR
      have e1 : (e0 == 0) = false := by rw [beq_eq_false_iff_ne]; exact he
      have e2 : (e0 != 0) = true := by rw [bne_iff_ne]; exact he
      rw [hlen] at ha1
      clear hR hlen he hol
      go_enter Tryd.func6, Tryd.ntmps6
      go_wp2_with fail
      refine (C1 _ HV.out).mono ?_
      rintro e w1 ⟨hf, a', c', rfl, _⟩
      rw [HR.out]
      have HF1 := Lib.hid (hf.alloc (.cells #[.int .i64 e0, .int .i64 a] 26))
      clear hf C1
      go_wp2_with fail
      refine (known _ (HV.out.keep HF1.out)).mono ?_
      rintro e w4 ⟨rfl, hf⟩
      have HFF := Lib.hid (HF1.out.trans hf fun _ _ h => h)
      clear hf
      go_wp2_with fail
      go_ret
      exact ⟨rfl, HFF.out.below (fun _ _ h => h.elim) (Nat.le_refl _)⟩

set_option maxRecDepth 100000 in
theorem lifted (os : Os) (started : os.Started) (H : Type) (enc : TypeId × Value → H) :
    ReturnsInHanded {} Tryd.checked os 6 .any (fun w args => (Rows.lexLiesSpec.pre enc Tryd.prog Tryd.f6 [] false w args ∧ laidMetH Tryd.prog listed w) ∧ sizedMet enc Tryd.prog Tryd.f6 (OpenSpec.ofChange Rows.lexLiesSpec) false w args) (Rows.lexLiesSpec.post enc Tryd.prog Tryd.f6 false true false false) := by
  refine returnsInHanded_of_change_and (C := Tryd.checked) (X := fun w _ => laidMetH Tryd.prog listed w) (fun _ _ _ hh h => h.of_heap hh) own started (by kernel_rfl) Tryd.func6
    (ChangeSpec.witness_shaped (enc := enc) (C := Tryd.checked) (os := os) (X := fun w _ => laidMetH Tryd.prog listed w) false (World.doorLaid Tryd.prog 400 os) #[.string ⟨#[]⟩] 8 rfl (World.shaped_of_RefB (by kernel_rfl) (by kernel_rfl)) (by kernel_rfl) (by kernel_rfl) (by kernel_rfl) (door_met os _)) ?_
  intro W base args ds gs before hval0 hW _ _ hL _
  have tab := of_laid hL
  have hval : ∀ (j : Nat) t v, Tryd.f6.params[j]? = some t → args[j]? = some v → Value.okWide Tryd.prog W .any base t v := hval0
  have hW' := hW
  obtain ⟨p, q, hA0, hV, rfl, hfz, hnd⟩ := hW
  have hA : DataW.TrodAll enc Tryd.prog W 0 (fun _ => true) true Tryd.f6.params.toList args.toList ds p := hA0
  rw [Tryd.params6] at hA hval
  obtain ⟨v0, vs0, d0, ds0, p0, q0, hargs, rfl, rfl, h0, r0⟩ := trodAll_cons hA
  obtain ⟨rfl, rfl, rfl⟩ := trodAll_nil r0
  obtain rfl : args = #[v0] := by cases args; simp_all
  obtain ⟨rfl, rfl⟩ := trodVars_none hV
  obtain ⟨a0, rfl, rfl, rfl, w0⟩ := open_string Tryd.underlying9 (hval 0 9 v0 rfl rfl) h0
  clear hA0 hval0
  refine (walk a0 W w0 tab).mono fun e W' ⟨he, bel⟩ => ?_
  subst he
  exact ⟨_, rfl, _, _, _, [], _, [], hW', trodAll_mk1 (shut_bool Tryd.underlying4 _), (trodAll_cons_mk (shut_string Tryd.underlying9 w0) trodAll_mk0), rfl, bel.frame _, fun h => by cases h⟩

theorem over : Rows.lexLiesRow.holds Tryd.pinned (OpenSpec.ofChange Rows.lexLiesSpec) :=
  OpenClaim.holds_of_wide 6 Tryd.f6 rfl rfl rfl rfl rfl rfl rfl ⟨rfl, rfl, rfl, rfl, rfl⟩ rfl rfl rfl rfl rfl (by kernel_rfl) Tryd.func6 (by kernel_rfl)
    (of_decide_eq_true (by kernel_rfl)) (by unfold Func.isWrapper; first | (rw [if_pos (by decide +kernel)]; kernel_rfl) | (rw [if_neg (by decide +kernel)]; exact ⟨rfl, rfl⟩))
    (fun os started H enc _ => lifted os started H enc)

theorem proved : Rows.LexLiesCardSaid :=
  Claim7.holds_tied_plain_at .later [] [.data, .data, .data, .sentinel, .sentinel] true (true, "4475519d43f7e576d893d05a793f837ffc487e2514522fc70b7312a4c9c61309") true
    over (fun _ h => by cases h) (by kernel_rfl) (fun _ h => by cases h) lexLies_row_tie rfl ⟨rfl, rfl⟩ (by kernel_rfl) rfl
    (fun f fn hf hfn => by
      obtain rfl : f = 6 := Option.some.inj ((show Tryd.prog.funcNamed Tryd.f6.name = some 6 by kernel_rfl).symm.trans hf) |>.symm
      obtain rfl : fn = Tryd.f6 := (Option.some.inj (Tryd.func6.symm.trans hfn)).symm
      exact ⟨by kernel_rfl, fun j t ht => by
        rw [Tryd.params6] at ht
        have hm : t ∈ [9] := by simpa using Array.mem_of_getElem? ht
        have hall : ([9].all fun u => !Tryd.prog.wantsStandIn u) = true := by kernel_rfl
        exact (show Tryd.prog.wantsStandIn t = false by simpa using List.all_eq_true.1 hall t hm)⟩)
    (by kernel_rfl)
#print axioms proved
end Go.Proofs.YthcifjehglgicaaDoor.lexLies
