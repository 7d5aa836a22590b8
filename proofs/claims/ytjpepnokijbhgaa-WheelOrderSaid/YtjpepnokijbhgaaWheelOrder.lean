/- Of the timers that fire at one tick all are told, each once, by instance and then by timer, in whatever order they were armed; the chapter's example holds. No condition. -/
import Derived.Test.YtjpepnokijbhgaaRows
import Derived.WalkKit
import Derived.ProofKit
import Derived.OpenShut
import Derived.ShutString
import Derived.ChangeOld
import Derived.Below
import Derived.Test.YtjpepnokijbhgaaOrder5
import Derived.Deep.RegionHeld3
import Derived.Test.YtjpepnokijbhgaaRef5c
namespace Go.Proofs.Ytjpepnokijbhgaa.wheelOrder
open Go.ChangeShapes Go.WideShapes Go.ChangeAt Go.RowKit
open Go.ChangeMaps (open_string shut_string)
set_option linter.unusedVariables false
set_option linter.unusedSimpArgs false

theorem own : ownKnob Try.prog.godebug = none := by kernel_rfl
theorem laidOut : laidOutB Try.prog = true := by kernel_rfl
open Whl Mem MapK MapF Tim

theorem openA0 {H : Type} {enc : TypeId × Value → H} {w : World} {a : Option Addr} {len cap : Nat} {d : DataW H} {p : List MemPlace} (h : DataW.Trod enc Try.prog w 0 (fun _ => true) true 47 (.slice a len cap) d p) : ∃ z, Row16 w a len cap z := openRow16 h

set_option maxHeartbeats 4000000 in
set_option maxRecDepth 100000 in
theorem walk (a0 : Option Addr) (len0 cap0 : Nat) (z0 : Nat → Int) (a1 : Int) (w : World) (w0 : Row16 w a0 len0 cap0 z0) (w1 : (Lit.int .u8 a1).wf = true) :
    Calls Try.prog 5 #[.slice a0 len0 cap0, .int .u8 a1] w fun e w' => e = .returned (.bool true) ∧ Below w.heap.size w w' := by
  have hz0 := Nat.le_trans w0.le w0.max
  unfold maxLen at hz0
  have W0 := Lib.hid w0
  have h1 : 0 ≤ a1 ∧ a1 ≤ 255 := by
    simp [Lit.wf, IntKind.min, IntKind.max, IntKind.bits, IntKind.signed] at w1
    omega
  have HB0 : Hid (Below w.heap.size w w) := Lib.hid (Below.refl _ _)
  clear w0 w1
  by_cases hl0 : 200 < len0
  · clear W0
    go_enter Try.func5, Try.ntmps5
    go_wp2_with fail
    refine (New w).mono ?_
    rintro e w1 ⟨rfl, hw, hf⟩
    have M1 := Lib.hid (Mine.of_new HB0.out hw hf)
    clear hw hf
    go_wp2_with fail
    refine (known _).mono ?_
    rintro e w9 ⟨rfl, hb⟩
    have HB9 := Lib.hid (M1.out.below.trans (hb.mono M1.out.below.size))
    clear hb
    go_wp2_with fail
    go_ret
    exact ⟨rfl, HB9.out⟩
  have hl0' : len0 ≤ 200 := by omega
  clear hl0
  obtain ⟨k, hk⟩ : ∃ k : Nat, a1 % 5 = k := ⟨(a1 % 5).toNat, by omega⟩
  have hk1 : k ≤ 4 := by omega
  have htm : a1.tmod 5 = k := by rw [Int.tmod_eq_emod_of_nonneg h1.1, hk]
  have hmm := @run_makeMap Try.prog
  go_enter Try.func5, Try.ntmps5
  go_wp2_with fail
  refine (New w).mono ?_
  rintro e w1 ⟨rfl, hw, hf⟩
  have M1 := Lib.hid (Ord.of_new (Mine.of_new HB0.out hw hf).below (Mine.of_new HB0.out hw hf))
  clear hw hf
  go_wp2_with fail
  generalize w1.heap.size = sb at *
  go_loopw [7] (fun i wr => ∃ (j : Nat) (T : List F) (mv : Option Nat), j ≤ len0 ∧ i = .int .i64 j ∧ T.length ≤ j ∧ Hid (Ord w wr w.heap.size sb mv (stand (1 + k) T) T)) (fun i _ => len0 - (intOf i).toNat)
  case atStart => exact ⟨0, [], none, Nat.zero_le _, rfl, Nat.zero_le _, M1⟩
  case round =>
    obtain ⟨j, T, mv, hj, rfl, hT, HO⟩ := hrel
    by_cases hjn : j < len0
    · obtain ⟨b, off, rfl, c0, hx⟩ := W0.out.cell HO.out.mine.below hjn
      generalize z0 j = x at c0 hx
      obtain ⟨hx0, hx1⟩ := hx
      have hnew := World.new_ne wr ⟨b, off + j, none⟩ c0
      go_wp2_with fail
      go_region_held3 (fun w' => w'.cell? ⟨b, off + j, none⟩ = some (.int .u16 x)) (first | go_keep) (first | fail)
      go_wp2_with fail
      have hi : I64 (x % 12) := by unfold I64; omega
      have ht : I64 (x / 12 % 6) := by unfold I64; omega
      have hmay : may (x % 12, x / 12 % 6) (1 + k) := ⟨⟨by simp only; omega, by simp only; omega⟩, by omega, by omega⟩
      generalize x % 12 = i at *
      generalize x / 12 % 6 = t at *
      have hR : armR (i, t) (1 + k) = 0 := if_pos hmay
      have hS : armS (i, t) (1 + k) (stand (1 + k) T) = stand (1 + k) (joins (i, t) (1 + k) T) := (if_pos hmay).trans (joins_eq _ _ _)
      have HOd : Hid (Ord w (wr.alloc (.cells #[.int .i64 i, .int .i64 t] 31)).drew w.heap.size sb mv (stand (1 + k) T) T) := Lib.hid (HO.out.still (((Foot.refl _ wr).alloc _).drew))
      have HBox : Hid (At (wr.alloc (.cells #[.int .i64 i, .int .i64 t] 31)).drew wr.heap.size 31 #[.int .i64 i, .int .i64 t]) := Lib.hid (At.new wr _ _)
      have CA := armO w w.heap.size sb mv (stand (1 + k) T) T i t (1 + k) _ HOd.out hi ht
      rw [hR, hS] at CA
      have HCA := Lib.hid CA
      have HI := Lib.hid hi; have HT := Lib.hid ht
      have HJl := Lib.hid (Nat.le_trans (length_joins (i, t) (1 + k) T) (Nat.succ_le_succ hT))
      clear CA hR hS hmay hi ht hnew c0
      refine HCA.out.mono ?_
      rintro e w5 ⟨rfl, mv5, hO, hF⟩
      have HO5 := Lib.hid hO
      have HB5 := Lib.hid (HOd.out.boxW HBox.out hF)
      have d0 : w5.cell? ⟨wr.heap.size, 0, none⟩ = some (.int .i64 i) := HB5.out.cell 0
      have d1 : w5.cell? ⟨wr.heap.size, 1, none⟩ = some (.int .i64 t) := HB5.out.cell 1
      clear hO hF HCA HOd HBox
      go_wp2_with (at_mapUpdate; refine wpList_mark rfl _ _ _ rfl HI.out HT.out rfl HO5.out.seen rfl rfl (1 + k) ?_; intro w6 hs6 hf6 _)
      have HO6 := Lib.hid (HO5.out.mark hs6 hf6)
      clear hs6 hf6 d0 d1 HB5
      go_wp2_with fail
      go_roundw
      case rel => exact ⟨j + 1, _, mv5, by omega, by go_num, HJl.out, HO6⟩
      case measure => simp [intOf]; omega
    · obtain rfl : j = len0 := by omega
      clear hjn
      have hTb : T.length ≤ 200 := by omega
      have hSb : ∀ r, (stand r T).length ≤ 1000000 := fun r => by unfold stand; rw [List.length_map]; omega
      have HSb := Lib.hid hSb
      have hno : ((1 : Int) + k ≠ 0) := by omega
      go_wp2_with fail
      go_loopw [9] (fun i wx => ∃ n : Nat, n ≤ k ∧ i = .int .i64 n ∧ Hid (Ord w wx w.heap.size sb mv (stand (1 + k - n) T) T)) (fun i _ => k - (intOf i).toNat)
      case atStart => exact ⟨0, Nat.zero_le _, rfl, by rw [show (1 : Int) + k - (0 : Nat) = 1 + k by omega]; exact HO⟩
      case round =>
        obtain ⟨n, hn, rfl, HX⟩ := hrel
        by_cases hnk : n < k
        · go_wp2_with fail
          refine (tickO w _ sb mv _ T _ HX.out (HSb.out _) (l := []) (L' := stand (1 + k - (n + 1 : Nat)) T) (stand_fired T (by omega)) (by rw [stand_tick T (by omega)]; congr 1; omega)).mono ?_
          rintro e w3 ⟨a, c, rfl, hM, _⟩
          have M3 := Lib.hid hM
          clear hM
          go_wp2_with fail
          go_roundw
          case rel => exact ⟨n + 1, by omega, by go_num, M3⟩
          case measure => simp [intOf]; omega
        · obtain rfl : n = k := by omega
          have h1k : (1 : Int) + n - (n : Nat) = 1 := by omega
          rw [h1k] at HX
          have HG := Lib.hid HX.out.mine.whl.good
          clear hnk
          go_wp2_with fail
          refine (tickO w _ sb mv _ T _ HX.out (HSb.out _) (l := T) (L' := []) (stand_last T).1 (stand_last T).2).mono ?_
          rintro e w3 ⟨a, c, rfl, hM, hF⟩
          have M3 := Lib.hid hM
          have HF3 := Lib.hid hF
          clear hM hF
          have hri : T.Pairwise lt := by
            have h := HG.out.rise
            unfold stand at h
            rw [List.pairwise_map] at h
            exact h
          have hnd : T.Nodup := hri.imp fun h => lt_ne h
          have hky : ∀ f ∈ T, I64 f.1 ∧ I64 f.2 := fun f hf => by
            have h := HG.out.keys (f, 1) (List.mem_map.2 ⟨f, hf, rfl⟩)
            simp only at h
            unfold I64
            omega
          have HRI := Lib.hid hri; have HND := Lib.hid hnd; have HKY := Lib.hid hky
          obtain ⟨_, _, hvs, hle, hmx⟩ := HF3.out.items.shape
          obtain ⟨-, rfl⟩ : _ ∧ _ = c := by injection hvs with e1 _ e3; exact ⟨e1, e3.symm⟩
          unfold maxLen at hmx
          clear hri hnd hky hvs
          go_wp2_with fail
          generalize hTl : T.length = m0 at *
          have HTl := Lib.hid hTl
          clear hTl
          go_loopw [11] (fun i wr => ∃ m : Nat, m ≤ m0 ∧ i = .int .i64 m ∧ Hid (Foot (fun _ => False) w3 wr)) (fun i _ => m0 - (intOf i).toNat)
          case atStart => exact ⟨0, Nat.zero_le _, rfl, Lib.hid (Foot.refl _ _)⟩
          case round =>
            obtain ⟨m, hm, rfl, HFy⟩ := hrel
            have HOy := Lib.hid (M3.out.still HFy.out)
            have HFF := Lib.hid (HF3.out.still HFy.out)
            by_cases hmn : m < m0
            · obtain ⟨x, z, hk2⟩ : ∃ x z, T[m]? = some (x, z) := ⟨_, _, List.getElem?_eq_getElem (by rw [HTl.out]; exact hmn)⟩
              have hmem := List.mem_of_getElem? hk2
              obtain ⟨g, off2, rfl, d0, d1⟩ := firing_row HFF.out HTl.out.symm hk2
              obtain ⟨hX, hZ⟩ := HKY.out _ hmem
              have hlk := Lib.hid fun w' (hf : Foot (fun _ => False) wr w') => look_yes (HOy.out.still hf).seen hX hZ HND.out hmem
              have HK2 := Lib.hid hk2
              clear hk2 hmem hX hZ
              rcases Nat.eq_zero_or_pos m with hm0 | hm0
              · subst hm0
                rw [Nat.zero_mul, Nat.add_zero] at d0 d1
                have hl := fun n => hlk.out (wr.drewN n) ((Foot.refl _ wr).drewN n)
                go_wp2_with fail
                go_quiet (fail)
                go_wp2_with fail
                go_roundw
                case rel => exact ⟨1, by omega, by go_num, Lib.hid (HFy.out.drewN _)⟩
                case measure => simp [intOf]; omega
              · obtain ⟨m', hm'⟩ : ∃ m', m = m' + 1 := ⟨m - 1, by omega⟩
                have hw1 : IntKind.i64.wrap ((m : Int) - 1) = (m' : Int) := by rw [IntKind.wrap_i64]; omega
                have hi1 : (m : Int) < (m0 : Int) := by omega
                have hi2 : (m' : Int) < (m0 : Int) := by omega
                have hi3 : m' < m0 := by omega
                have hi4 : (0 : Int) < (m : Int) := by omega
                obtain ⟨x', z', hk3⟩ : ∃ x z, T[m']? = some (x, z) := ⟨_, _, List.getElem?_eq_getElem (by rw [HTl.out]; omega)⟩
                obtain ⟨g', off', hgo, e0, e1⟩ := firing_row HFF.out HTl.out.symm hk3
                obtain ⟨rfl, rfl⟩ : g = g' ∧ off2 = off' := by simpa using hgo
                have hlt2 : lt (x', z') (x, z) := by
                  obtain ⟨q1, q2⟩ := List.getElem?_eq_some_iff.1 hk3
                  obtain ⟨q3, q4⟩ := List.getElem?_eq_some_iff.1 HK2.out
                  rw [← q2, ← q4]
                  exact List.pairwise_iff_getElem.1 HRI.out m' m q1 q3 (by omega)
                have CL := Lib.hid fun w => Ref5.Less (x', z') (x, z) w
                rw [decide_eq_true hlt2] at CL
                have HFr := Lib.hid ((Foot.refl (fun _ => False) wr).drew)
                have HOLD := Lib.hid fun w' (hF : Foot (fun _ => False) wr w') => show w'.cell? ⟨g, off2 + m * 2, none⟩ = some (.int .i64 x) ∧ w'.cell? ⟨g, off2 + m * 2 + 1, none⟩ = some (.int .i64 z) ∧ w'.cell? ⟨g, off2 + m' * 2, none⟩ = some (.int .i64 x') ∧ w'.cell? ⟨g, off2 + m' * 2 + 1, none⟩ = some (.int .i64 z') ∧
                    (Instr.lookup 48 (.map (some sb)) (.agg #[.int .i64 x, .int .i64 z]) false).run Try.prog w' = .ok (.bool true) w' from
                  ⟨Ref5.hold1 d0 hF, Ref5.hold1 d1 hF, Ref5.hold1 e0 hF, Ref5.hold1 e1 hF, hlk.out w' hF⟩
                clear hk3 hgo hlt2 hm'
                go_wp2_with fail
                go_region_held3 (fun w' => w'.cell? ⟨g, off2 + m * 2, none⟩ = some (.int .i64 x) ∧ w'.cell? ⟨g, off2 + m * 2 + 1, none⟩ = some (.int .i64 z) ∧ w'.cell? ⟨g, off2 + m' * 2, none⟩ = some (.int .i64 x') ∧ w'.cell? ⟨g, off2 + m' * 2 + 1, none⟩ = some (.int .i64 z') ∧
                    (Instr.lookup 48 (.map (some sb)) (.agg #[.int .i64 x, .int .i64 z]) false).run Try.prog w' = .ok (.bool true) w')
                  (exact HOLD.out _ HFr.out)
                  (first | (go_at_call 24; (with_reducible refine (CL.out _).mono ?_); rintro e wl ⟨rfl, hFl⟩; have HFr := Lib.hid ((Foot.refl (fun _ => False) wr).drew.trans hFl fun _ _ h => h)))
                have HF9 : Hid (Foot (fun _ => False) w3 wl) := Lib.hid (HFy.out.trans HFr.out fun _ _ h => h)
                go_wp2_with fail
                go_roundw
                case rel => exact ⟨m + 1, by omega, by go_num, HF9⟩
                case measure => simp [intOf]; omega
            · obtain rfl : m = m0 := by omega
              clear hmn
              go_wp2_with (at_len; refine wpList_lenB rfl _ rfl rfl HOy.out.seen HTl.out ?_)
              refine (known _).mono ?_
              rintro e w9 ⟨rfl, hb⟩
              have HB9 := Lib.hid (HOy.out.mine.below.trans (hb.mono HOy.out.mine.below.size))
              clear hb
              go_wp2_with fail
              go_ret
              exact ⟨rfl, HB9.out⟩

set_option maxRecDepth 100000 in
theorem lifted (os : Os) (started : os.Started) (H : Type) (enc : TypeId × Value → H) :
    ReturnsInHanded {} Try.checked os 5 .any (Rows.wheelOrderSpec.pre6 enc Try.prog Try.f5 Rows.wheelOrderRow.domain false) (Rows.wheelOrderSpec.post enc Try.prog Try.f5 false true false false) := by
  refine returnsInHanded_of_change (C := Try.checked) own started (by kernel_rfl) Try.func5
    (ChangeSpec.witness6 (enc := enc) (C := Try.checked) false ⟨#[], #[.slice none 0 0, .int .u8 0], []⟩ 8 (by kernel_rfl) (by kernel_rfl) (by kernel_rfl) (by kernel_rfl)) ?_
  intro W base args ds gs before hval0 hW hcnd _
  have hval : ∀ (j : Nat) t v, Try.f5.params[j]? = some t → args[j]? = some v → Value.okWide Try.prog W .any base t v := hval0
  have hW' := hW
  obtain ⟨p, q, hA0, hV, rfl, hfz, hnd⟩ := hW
  have hA : DataW.TrodAll enc Try.prog W 0 (fun _ => true) true Try.f5.params.toList args.toList ds p := hA0
  rw [Try.params5] at hA hval
  obtain ⟨v0, vs0, d0, ds0, p0, q0, hargs, rfl, rfl, h0, r0⟩ := trodAll_cons hA
  obtain ⟨v1, vs1, d1, ds1, p1, q1, rfl, rfl, rfl, h1, r1⟩ := trodAll_cons r0
  obtain ⟨rfl, rfl, rfl⟩ := trodAll_nil r1
  obtain rfl : args = #[v0, v1] := by cases args; simp_all
  obtain ⟨rfl, rfl⟩ := trodVars_none hV
  obtain ⟨a0, len0, cap0, rfl⟩ := okWide_slice Try.underlying47 (hval 0 47 v0 rfl rfl)
  have k0 := h0
  have lt0 : ∀ x ∈ p0, x.block < W.heap.size := by obtain ⟨m, hm⟩ := k0; exact DataW.trod_lt m _ _ _ hm
  obtain ⟨z0, w0⟩ := openA0 h0
  obtain ⟨a1, rfl, rfl, rfl, w1⟩ := open_int Try.underlying5 (hval 1 5 v1 rfl rfl) h1
  clear hA0 hval0
  refine (walk a0 len0 cap0 z0 a1 W w0 w1).mono fun e W' ⟨he, bel⟩ => ?_
  subst he
  exact ⟨_, rfl, _, _, _, [], _, [], hW', trodAll_mk1 (shut_bool Try.underlying4 _), (trodAll_cons_mk (Below.trod laidOut (by kernel_rfl) (of_decide_eq_true (by kernel_rfl)) k0 bel lt0) (trodAll_cons_mk (shut_int Try.underlying5 w1) trodAll_mk0)), rfl, bel.frame _, fun h => by cases h⟩

theorem over : Rows.wheelOrderRow.holds Try.pinned (OpenSpec.ofChange Rows.wheelOrderSpec) :=
  OpenClaim.holds_of_wide 5 Try.f5 rfl rfl rfl rfl rfl rfl rfl ⟨rfl, rfl, rfl, rfl, rfl⟩ rfl rfl rfl rfl rfl (by kernel_rfl) Try.func5 (by kernel_rfl)
    (of_decide_eq_true (by kernel_rfl)) (by unfold Func.isWrapper; first | (rw [if_pos (by decide +kernel)]; kernel_rfl) | (rw [if_neg (by decide +kernel)]; exact ⟨rfl, rfl⟩))
    (fun os started H enc _ => lifted os started H enc)

theorem proved : Rows.WheelOrderSaid := over
#print axioms proved
end Go.Proofs.Ytjpepnokijbhgaa.wheelOrder
