/- Of any row of signs and brackets: at most MaxNest of them are read, and the first that is too many is told at its place; the chapter's examples hold. No condition; the variables of strconv and math/bits are laid as their initialisers lay them (tied). -/
import Derived.Test.YtdibkgjldmepcaaDoorRows
import Derived.WalkKit
import Derived.ProofKit
import Derived.OpenShut
import Derived.ShutString
import Derived.ChangeOld
import Derived.Below
import Derived.Test.YtdibkgjldmepcaaDoorPk
import Derived.Test.YtdibkgjldmepcaaDoorPo
import Derived.Deep.Grids
import Derived.Test.YtdibkgjldmepcaaDoorCards
import Derived.Test.YtdibkgjldmepcaaDoorTie
import Derived.Test.YtdibkgjldmepcaaDoorTabL
import Derived.SevenTiedAt
import Derived.LaidMore
import Derived.Stop.Joined
namespace Go.Proofs.YtdibkgjldmepcaaDoor.exprDeep
open Go.ChangeShapes Go.WideShapes Go.ChangeAt Go.RowKit
open Go.ChangeMaps (open_string shut_string)
set_option linter.unusedVariables false
set_option linter.unusedSimpArgs false

open Go.Proofs.YtdibkgjldmepcaaDoor.Lex (listed door_met of_laid)
theorem own : ownKnob Tryd.prog.godebug = none := by kernel_rfl
theorem laidOut : laidOutB Tryd.prog = true := by kernel_rfl
open Mem Lex Gen Xp

structure BoolsIn (w : World) (a : Option Addr) (len cap : Nat) (bs : List Bool) : Prop where
  same : bs.length = len
  le : len ≤ cap
  max : cap ≤ maxLen
  cell : ∀ j, j < len → ∃ b off, a = some ⟨b, off, none⟩ ∧ w.cell? ⟨b, off + j, none⟩ = some (.bool (bs.getD j false))
theorem openA0 {H : Type} {enc : TypeId × Value → H} {w : World} {a : Option Addr} {len cap : Nat} {d : DataW H} {p : List MemPlace} (h : DataW.Trod enc Tryd.prog w 0 (fun _ => true) true 43 (.slice a len cap) d p) : ∃ bs, BoolsIn w a len cap bs := by
  obtain ⟨fuel, hf⟩ := h
  rcases Go.Deep.open_bools Tryd.underlying43 Tryd.underlying4 (by kernel_rfl) hf with ⟨hcs, _⟩ | ⟨x, l, c, B, hcs, _, hl, hm, _, hcell⟩
  · simp [Value.cells] at hcs
    obtain ⟨rfl, rfl, rfl⟩ := hcs
    exact ⟨[], rfl, Nat.le_refl _, Nat.zero_le _, fun j hj => absurd hj (by omega)⟩
  · simp [Value.cells] at hcs
    obtain ⟨rfl, rfl, rfl⟩ := hcs
    refine ⟨(List.range len).map B, by simp, hl, hm, fun j hj => ?_⟩
    have h0 := hcell 0 (by omega)
    rw [Addr.add_zero'] at h0
    have hx := plain_of_cell h0
    refine ⟨x.block, x.off, congrArg some hx, ?_⟩
    have hj' := hcell j (by omega)
    rw [hx, Mem.add_plain] at hj'
    rw [hj']
    simp [List.getD, hj]
theorem head_step (bs : List Bool) (j : Nat) (h : j < bs.length) : headT (bs.take (j + 1)) = headT (bs.take j) ++ [if bs.getD j false then 45 else 40] := by
  have e : bs.getD j false = bs[j] := by simp [List.getD, h]
  rw [List.take_succ_eq_append_getElem h, e]
  unfold headT
  rw [List.map_append]
  rfl
theorem tail_step (bs : List Bool) (j : Nat) (h : j < bs.length) : tailT (bs.take (j + 1)) = if bs.getD j false then tailT (bs.take j) else [41] ++ tailT (bs.take j) := by
  rw [List.take_succ_eq_append_getElem h]
  have e : bs.getD j false = bs[j] := by simp [List.getD, h]
  rw [e]
  unfold tailT
  rw [List.count_append]
  cases hb : bs[j] with
  | true => simp
  | false => simp [List.replicate_succ]
theorem mk_app (l m : Bytes) : mk l ++ mk m = mk (l ++ m) := by
  refine bs_inj ?_
  simp only [bs_append, bs_mk]
def atI (j : Nat) : Int := if 12 < j then 12 else 0

set_option maxHeartbeats 4000000 in
set_option maxRecDepth 100000 in
theorem walk (a0 : Option Addr) (len0 cap0 : Nat) (z0 : List Bool) (w : World) (w0 : BoolsIn w a0 len0 cap0 z0) (hT : Vars w) :
    Calls Tryd.prog 6 #[.slice a0 len0 cap0] w fun e w' => e = .returned (.bool true) ∧ Below w.heap.size w w' := by
  have HV := Lib.hid hT
  have W0 := Lib.hid w0
  have hz0 := w0.same
  clear w0 hT
  by_cases hl : len0 ≤ 40
  case neg =>
    have hl2 : (40 : Int) < len0 := by omega
    clear hl hz0
    go_enter Tryd.func6, Tryd.ntmps6
    go_wp2_with fail
    refine (known_c _ HV.out).mono ?_
    rintro e w1 ⟨rfl, hf⟩
    have HF := Lib.hid hf
    clear hf
    go_wp2_with fail
    go_ret
    exact ⟨rfl, HF.out.below (fun _ _ h => h.elim) (Nat.le_refl _)⟩
  have hl2 : ¬ (40 : Int) < len0 := by omega
  have HZ := Lib.hid hz0
  have HF := Lib.hid (Foot.refl (fun _ => False) w)
  clear hz0
  go_enter Tryd.func6, Tryd.ntmps6
  go_wp2_with fail
  go_loopw [3, 4, 5, 6] (fun t e at_ i wr => ∃ j : Nat, t = .string (mk (headT (z0.take j))) ∧ e = .string (mk (tailT (z0.take j))) ∧ at_ = .int .i64 (atI j) ∧ i = .int .i64 j ∧ j ≤ len0 ∧ Hid (Foot (fun _ => False) w wr)) (fun t e at_ i _ => len0 - (intOf i).toNat)
  case atStart => exact ⟨0, rfl, rfl, rfl, rfl, Nat.zero_le _, HF⟩
  case round =>
    obtain ⟨j, rfl, rfl, rfl, rfl, hj, HR⟩ := hrel
    have hs1 : (mk (headT (z0.take j))).size ≤ 40 := by rw [mk_size]; have := HZ.out; simp only [headT, List.length_map, List.length_take]; omega
    have hs2 : (mk (tailT (z0.take j))).size ≤ 40 := by rw [mk_size]; have := HZ.out; have := List.count_le_length (a := false) (l := z0.take j); simp only [tailT, List.length_replicate]; rw [List.length_take] at this; omega
    have hz1 : ¬ 9223372036854775807 < (mk (headT (z0.take j))).size + 1 := by omega
    have hz2 : ¬ 9223372036854775807 < 1 + (mk (tailT (z0.take j))).size := by omega
    by_cases hjl : j < len0
    · have hjI : (j : Int) < len0 := by omega
      have hjz : j < z0.length := by rw [HZ.out]; exact hjl
      obtain ⟨b, off, rfl, hc⟩ := W0.out.cell j hjl
      have hc' : wr.cell? ⟨b, off + j, none⟩ = some (.bool (z0.getD j false)) := by rw [HR.out.cell (p := ⟨b, off + j, none⟩) (World.block_lt_of_cell? w _ hc) id]; exact hc
      have HS1 := Lib.hid (head_step z0 j hjz)
      have HS2 := Lib.hid (tail_step z0 j hjz)
      have hjw : IntKind.i64.wrap ((j : Int) + 1) = (j : Int) + 1 := by rw [IntKind.wrap_i64]; omega
      have hsz : ((mk (headT (z0.take j))).size : Int) = j := by rw [mk_size]; simp only [headT, List.length_map, List.length_take]; omega
      generalize hT1 : mk (headT (z0.take j)) = T1 at *
      generalize hT2 : mk (tailT (z0.take j)) = T2 at *
      have HT1 := Lib.hid hT1
      have HT2 := Lib.hid hT2
      clear hc hT1 hT2
      by_cases h12 : j = 12
      · have h12I : ((j : Int) == 12) = true := by rw [beq_iff_eq]; omega
        have H12 := Lib.hid h12
        clear h12
        cases hb : z0.getD j false with
        | true =>
          rw [hb] at hc'
          go_wp2_with fail
          go_roundw
          case rel => exact ⟨j + 1, by rw [HS1.out, ← HT1.out, hb]; exact congrArg Value.string (mk_app _ _), by rw [HS2.out, ← HT2.out, hb]; rfl, by rw [show atI (j + 1) = (j : Int) by have := H12.out; unfold atI; rw [if_pos (by omega)]; omega]; first | done | rw [hsz], by go_num, by omega, HR⟩
          case measure => simp [intOf]; omega
        | false =>
          rw [hb] at hc'
          go_wp2_with fail
          go_roundw
          case rel => exact ⟨j + 1, by rw [HS1.out, ← HT1.out, hb]; exact congrArg Value.string (mk_app _ _), by rw [HS2.out, ← HT2.out, hb]; exact congrArg Value.string (mk_app _ _), by rw [show atI (j + 1) = (j : Int) by have := H12.out; unfold atI; rw [if_pos (by omega)]; omega]; first | done | rw [hsz], by go_num, by omega, HR⟩
          case measure => simp [intOf]; omega
      · have h12I : ((j : Int) == 12) = false := by rw [beq_eq_false_iff_ne]; omega
        have hat : atI (j + 1) = atI j := by
          unfold atI
          by_cases h13 : 12 < j
          · rw [if_pos h13, if_pos (by omega)]
          · rw [if_neg h13, if_neg (by omega)]
        cases hb : z0.getD j false with
        | true =>
          rw [hb] at hc'
          go_wp2_with fail
          go_roundw
          case rel => exact ⟨j + 1, by rw [HS1.out, ← HT1.out, hb]; exact congrArg Value.string (mk_app _ _), by rw [HS2.out, ← HT2.out, hb]; rfl, by rw [hat], by go_num, by omega, HR⟩
          case measure => simp [intOf]; omega
        | false =>
          rw [hb] at hc'
          go_wp2_with fail
          go_roundw
          case rel => exact ⟨j + 1, by rw [HS1.out, ← HT1.out, hb]; exact congrArg Value.string (mk_app _ _), by rw [HS2.out, ← HT2.out, hb]; exact congrArg Value.string (mk_app _ _), by rw [hat], by go_num, by omega, HR⟩
          case measure => simp [intOf]; omega
    · obtain rfl : j = len0 := by omega
      have hjI : ¬ (j : Int) < j := by omega
      obtain ⟨ts, hout, hread⟩ := deep_read z0 (by rw [HZ.out]; exact hl)
      rw [HZ.out] at hread
      have hall : z0.take j = z0 := by rw [← HZ.out, List.take_length]
      rw [hall] at hs1 hs2 hz1 hz2 ⊢
      have hz3 : ¬ 9223372036854775807 < (mk (headT z0)).size + 1 + (mk (tailT z0)).size := by omega
      have hbs : bs ((mk (headT z0) ++ { data := #[120] }) ++ mk (tailT z0)) = deepT z0 := by
        rw [bs_append, bs_append, bs_mk, bs_mk, ← deep_head]; rfl
      rw [← hbs] at hout
      have AL := fun W hW => All_c ((mk (headT z0) ++ { data := #[120] }) ++ mk (tailT z0)) W (by simp only [ByteArray.size_append]; have : ({ data := #[120] } : ByteArray).size = 1 := rfl; omega) hW
      have HO := Lib.hid hout
      clear hall hbs hout
      generalize mk (headT z0) = T1 at *
      generalize mk (tailT z0) = T2 at *
      go_wp2_with fail
      refine (AL _ (HV.out.keep HR.out)).mono ?_
      rintro e w1 ⟨hf, a1, c1, rfl, hi⟩
      rw [HO.out] at hi ⊢
      obtain ⟨htk, hpos⟩ := toks_of HO.out hi
      dsimp only at hi htk hpos ⊢
      have hf1 := hf.alloc (.cells #[.int .i64 0, .int .i64 0] 47)
      have HF1 := Lib.hid (HR.out.trans hf1 fun _ _ h => h)
      have HTK := Lib.hid (htk.still ((Foot.refl (fun _ => False) w1).alloc (.cells #[.int .i64 0, .int .i64 0] 47)))
      obtain ⟨q0, q1⟩ := cells2 (At.new w1 47 #[.int .i64 0, .int .i64 0])
      have PC := fun W hW => parse_c (.slice a1 ts.length c1) ts 0 W hW hpos
      generalize hln : ts.length = ln at *
      clear hi htk hf hf1 AL HO
      go_wp2_with fail
      generalize w1.alloc (.cells #[.int .i64 0, .int .i64 0] 47) = W2 at *
      clear q0 q1
      refine (PC _ HTK.out).mono ?_
      by_cases h12 : j ≤ 12
      · rw [if_pos h12] at hread
        obtain ⟨y, n, hp⟩ := hread
        rw [hp]
        rintro e w2 ⟨⟨u, i, rfl, hTr, hdr, hi⟩, hf⟩
        obtain ⟨k, n', us, a, m, c, p, rfl⟩ := hTr.five
        obtain ⟨x1, x2, x3, x4⟩ := two (Foot.refl (fun _ => False) ((w2.alloc (.cells #[.int .i64 k, .int .i64 n', .string us, .slice a m c, .int .i64 p] 24)).alloc (.cells #[.int .i64 0, .int .i64 0] 47)))
        have HF3 := Lib.hid (HF1.out.trans (hf.trans x3 fun _ _ h => h) fun _ _ h => h)
        have hlast : ((i : Int) == (ln : Int) - 1) = true := by
          have h1 : (ts.drop i).length = 1 := by rw [← hdr]; rfl
          rw [List.length_drop] at h1
          rw [beq_iff_eq]; omega
        have hwl : IntKind.i64.wrap ((ln : Int) - 1) = (ln : Int) - 1 := by have := HTK.out.few; rw [IntKind.wrap_i64]; omega
        have hj12 : ¬ (12 : Int) < (j : Int) := by omega
        obtain ⟨f0, f1⟩ := cells2 x2
        clear hTr hf PC HTK x1 x2 x3 x4 hdr hp
        go_upto_region 16 with fail
        generalize (w2.alloc (.cells #[.int .i64 k, .int .i64 n', .string us, .slice a m c, .int .i64 p] 24)).alloc (.cells #[.int .i64 0, .int .i64 0] 47) = W3 at *
        go_wp2_with fail
        refine (known_c _ (HV.out.keep HF3.out)).mono ?_
        rintro e w4 ⟨rfl, hf⟩
        have HF := Lib.hid (HF3.out.trans hf fun _ _ h => h)
        clear hf
        go_wp2_with fail
        go_ret
        exact ⟨rfl, HF.out.below (fun _ _ h => h.elim) (Nat.le_refl _)⟩
      · rw [if_neg h12] at hread
        rw [hread]
        rintro e w2 ⟨⟨rfl, _⟩, hf⟩
        obtain ⟨x1, x2, x3, x4⟩ := two (Foot.refl (fun _ => False) ((w2.alloc (.cells #[.int .i64 0, .int .i64 0, .string ⟨#[]⟩, .slice none 0 0, .int .i64 0] 24)).alloc (.cells #[.int .i64 14, .int .i64 12] 47)))
        have HF3 := Lib.hid (HF1.out.trans (hf.trans x3 fun _ _ h => h) fun _ _ h => h)
        have hj12 : (12 : Int) < (j : Int) := by omega
        have hat : atI j = 12 := by unfold atI; rw [if_pos (by omega)]
        obtain ⟨f0, f1⟩ := cells2 x2
        clear hf PC HTK x1 x2 x3 x4
        go_upto_region 16 with fail
        generalize (w2.alloc (.cells #[.int .i64 0, .int .i64 0, .string ⟨#[]⟩, .slice none 0 0, .int .i64 0] 24)).alloc (.cells #[.int .i64 14, .int .i64 12] 47) = W3 at *
        go_wp2_with fail
        refine (known_c _ (HV.out.keep HF3.out)).mono ?_
        rintro e w4 ⟨rfl, hf⟩
        have HF := Lib.hid (HF3.out.trans hf fun _ _ h => h)
        clear hf
        go_wp2_with fail
        go_ret
        exact ⟨rfl, HF.out.below (fun _ _ h => h.elim) (Nat.le_refl _)⟩

set_option maxRecDepth 100000 in
theorem lifted (os : Os) (started : os.Started) (H : Type) (enc : TypeId × Value → H) :
    ReturnsInHanded {} Tryd.checked os 6 .any (fun w args => (Rows.exprDeepSpec.pre enc Tryd.prog Tryd.f6 [] false w args ∧ laidMetH Tryd.prog listed w) ∧ sizedMet enc Tryd.prog Tryd.f6 (OpenSpec.ofChange Rows.exprDeepSpec) false w args) (Rows.exprDeepSpec.post enc Tryd.prog Tryd.f6 false true false false) := by
  refine returnsInHanded_of_change_and (C := Tryd.checked) (X := fun w _ => laidMetH Tryd.prog listed w) (fun _ _ _ hh h => h.of_heap hh) own started (by kernel_rfl) Tryd.func6
    (ChangeSpec.witness_shaped (enc := enc) (C := Tryd.checked) (os := os) (X := fun w _ => laidMetH Tryd.prog listed w) false (World.doorLaid Tryd.prog 400 os) #[.slice none 0 0] 8 rfl (World.shaped_of_RefB (by kernel_rfl) (by kernel_rfl)) (by kernel_rfl) (by kernel_rfl) (by kernel_rfl) (door_met os _)) ?_
  intro W base args ds gs before hval0 hW _ _ hL _
  have tab := of_laid hL
  have hval : ∀ (j : Nat) t v, Tryd.f6.params[j]? = some t → args[j]? = some v → Value.okWide Tryd.prog W .any base t v := hval0
  have hW' := hW
  obtain ⟨p, q, hA0, hV, rfl, hfz, hnd⟩ := hW
  have hA : DataW.TrodAll enc Tryd.prog W 0 (fun _ => true) true Tryd.f6.params.toList args.toList ds p := hA0
  rw [Tryd.params6] at hA hval
  obtain ⟨v0, vs0, d0, ds0, p0, q0, hargs, rfl, rfl, h0, r0⟩ := trodAll_cons hA
  obtain ⟨rfl, rfl, rfl⟩ := trodAll_nil r0
  obtain rfl : args = #[v0] := by cases args; simp_all
  obtain ⟨rfl, rfl⟩ := trodVars_none hV
  obtain ⟨a0, len0, cap0, rfl⟩ := okWide_slice Tryd.underlying43 (hval 0 43 v0 rfl rfl)
  have k0 := h0
  have lt0 : ∀ x ∈ p0, x.block < W.heap.size := by obtain ⟨m, hm⟩ := k0; exact DataW.trod_lt m _ _ _ hm
  obtain ⟨z0, w0⟩ := openA0 h0
  clear hA0 hval0
  refine (walk a0 len0 cap0 z0 W w0 tab).mono fun e W' ⟨he, bel⟩ => ?_
  subst he
  exact ⟨_, rfl, _, _, _, [], _, [], hW', trodAll_mk1 (shut_bool Tryd.underlying4 _), (trodAll_cons_mk (Below.trod laidOut (by kernel_rfl) (of_decide_eq_true (by kernel_rfl)) k0 bel lt0) trodAll_mk0), rfl, bel.frame _, fun h => by cases h⟩

theorem over : Rows.exprDeepRow.holds Tryd.pinned (OpenSpec.ofChange Rows.exprDeepSpec) :=
  OpenClaim.holds_of_wide 6 Tryd.f6 rfl rfl rfl rfl rfl rfl rfl ⟨rfl, rfl, rfl, rfl, rfl⟩ rfl rfl rfl rfl rfl (by kernel_rfl) Tryd.func6 (by kernel_rfl)
    (of_decide_eq_true (by kernel_rfl)) (by unfold Func.isWrapper; first | (rw [if_pos (by decide +kernel)]; kernel_rfl) | (rw [if_neg (by decide +kernel)]; exact ⟨rfl, rfl⟩))
    (fun os started H enc _ => lifted os started H enc)

theorem proved : Rows.ExprDeepCardSaid :=
  Claim7.holds_tied_plain_at .later [] [.data, .data, .data, .sentinel, .sentinel] true (true, "fc7dd00d74bbcc0d72db28cef0c28b802cc44da259ac316393ce6c1e49aca0bb") true
    over (fun _ h => by cases h) (by kernel_rfl) (fun _ h => by cases h) exprDeep_row_tie rfl ⟨rfl, rfl⟩ (by kernel_rfl) rfl
    (fun f fn hf hfn => by
      obtain rfl : f = 6 := Option.some.inj ((show Tryd.prog.funcNamed Tryd.f6.name = some 6 by kernel_rfl).symm.trans hf) |>.symm
      obtain rfl : fn = Tryd.f6 := (Option.some.inj (Tryd.func6.symm.trans hfn)).symm
      exact ⟨by kernel_rfl, fun j t ht => by
        rw [Tryd.params6] at ht
        have hm : t ∈ [43] := by simpa using Array.mem_of_getElem? ht
        have hall : ([43].all fun u => !Tryd.prog.wantsStandIn u) = true := by kernel_rfl
        exact (show Tryd.prog.wantsStandIn t = false by simpa using List.all_eq_true.1 hall t hm)⟩)
    (by kernel_rfl)
#print axioms proved
end Go.Proofs.YtdibkgjldmepcaaDoor.exprDeep
