/- A list that a Ring handed out stays as it is, whatever is done with the Ring, and the Ring, whatever is done with the list. No condition. -/
import Derived.Test.YtmiebedoijnnaaaRows
import Derived.WalkKit
import Derived.ProofKit
import Derived.OpenShut
import Derived.ShutString
import Derived.ChangeOld
import Derived.Below
import Derived.Test.YtmiebedoijnnaaaRingKnown
import Derived.Test.YtmiebedoijnnaaaOpen
namespace Go.Proofs.Ytmiebedoijnnaaa.ringOwn
open Go.ChangeShapes Go.WideShapes Go.ChangeAt Go.RowKit
open Go.ChangeMaps (open_string shut_string)
set_option linter.unusedVariables false

theorem own : ownKnob Try.prog.godebug = none := by kernel_rfl
theorem laidOut : laidOutB Try.prog = true := by kernel_rfl
open Ring Mem

theorem openA0 {H : Type} {enc : TypeId × Value → H} {w : World} {a : Option Addr} {len cap : Nat} {d : DataW H} {p : List MemPlace} (h : DataW.Trod enc Try.prog w 0 (fun _ => true) true 28 (.slice a len cap) d p) : ∃ zs, IntsIn w a len cap zs :=
  open_ints_in Try.underlying28 Try.underlying3 (by kernel_rfl) h

/-- Block g holds ints alone. -/
def AllInts (w : World) (g n : Nat) : Prop := ∃ cs : Array Value, At w g 3 cs ∧ cs.size = n ∧ ∀ j, j < n → ∃ x : Int, cs[j]? = some (.int .i64 x)
theorem AllInts.of {w : World} {g : Nat} {zs : List Int} (h : At w g 3 (zs.map (Value.int .i64)).toArray) : AllInts w g zs.length :=
  ⟨_, h, by simp, fun j hj => ⟨_, by rw [List.getElem?_toArray, getD_map hj]⟩⟩
theorem AllInts.set {w : World} {g n j : Nat} (h : AllInts w g n) (x : Int) : AllInts (w.setCell ⟨g, j, none⟩ (.int .i64 x)) g n := by
  obtain ⟨cs, h1, h2, h3⟩ := h
  refine ⟨_, h1.set j _, by simpa using h2, fun i hi => ?_⟩
  by_cases e : j = i
  · subst e; exact ⟨x, by rw [Array.getElem?_setIfInBounds_self_of_lt (by omega)]⟩
  · obtain ⟨y, hy⟩ := h3 i hi
    exact ⟨y, by rw [Array.getElem?_setIfInBounds_ne e]; exact hy⟩
theorem take_snoc (zs : List Int) {j : Nat} (h : j < zs.length) : (zs.take j).map (Value.int .i64) ++ [.int .i64 (zs.getD j 0)] = (zs.take (j + 1)).map (Value.int .i64) := by
  rw [List.take_succ_eq_append_getElem h, List.map_append]; simp [List.getD, List.getElem?_eq_getElem h]
theorem one_ints {zs : List Int} : ∀ v ∈ zs.map (Value.int .i64), v.oneCell' = true := by
  intro v hv
  obtain ⟨z, _, rfl⟩ := List.mem_map.1 hv
  rfl

theorem one_left {zs : List Int} {k : Int} : ∀ v ∈ restOf (zs.map (Value.int .i64)) k ++ [Value.int .i64 7], v.oneCell' = true := by
  intro v hv
  rcases List.mem_append.1 hv with h | h
  · refine one_ints (zs := zs) v ?_
    unfold restOf at h
    split at h
    · rcases List.mem_append.1 h with h | h
      · exact List.mem_of_mem_take h
      · exact List.mem_of_mem_drop h
    · exact h
  · obtain rfl := List.mem_singleton.1 h
    rfl

set_option maxHeartbeats 1000000 in
set_option maxRecDepth 100000 in
theorem walk (a0 : Option Addr) (len0 cap0 : Nat) (z0 : List Int) (a1 : Int) (w : World) (w0 : IntsIn w a0 len0 cap0 z0) (w1 : (Lit.int .i64 a1).wf = true) :
    Calls Try.prog 5 #[.slice a0 len0 cap0, .int .i64 a1] w fun e w' => e = .returned (.bool true) ∧ Below w.heap.size w w' := by
  have C1 := Lib.hid (New_ok 400 w (by omega))
  have ha := wf_i64 w1
  clear w1
  have hl := w0.reads.1
  have hcm := w0.le
  have hmx := w0.max
  unfold maxLen at hmx
  have W0 := Lib.hid w0; clear w0
  by_cases hlen : 200 < len0
  · go_enter Try.func5, Try.ntmps5
    go_wp2_with fail
    refine C1.out.mono ?_
    rintro e w1 ⟨rfl, hR, hF⟩
    have HB := Lib.hid (Mine.of_new hR hF).below
    clear hR hF
    go_wp2_with fail
    refine (known _).mono ?_
    rintro e w2 ⟨rfl, hb⟩
    have HB2 := Lib.hid (HB.out.trans (hb.mono HB.out.size))
    clear hb
    go_wp2_with fail
    go_ret
    exact ⟨rfl, HB2.out⟩
  · go_enter Try.func5, Try.ntmps5
    go_wp2_with fail
    refine C1.out.mono ?_
    rintro e w1 ⟨rfl, hR, hF⟩
    have M1 := Lib.hid (Mine.of_new hR hF)
    clear hR hF C1
    go_wp2_with fail
    go_loopw [7] (fun i wr => ∃ (j : Nat) (a' : Option Addr) (c' : Nat), j ≤ len0 ∧ i = .int .i64 j ∧ Mine w wr w.heap.size 400 (.slice a' j c') j ((z0.take j).map (Value.int .i64))) (fun i _ => len0 - (intOf i).toNat)
    case atStart => exact ⟨0, none, 0, Nat.zero_le _, rfl, M1.out⟩
    case round =>
      obtain ⟨j, a', c', hj, rfl, hM⟩ := hrel
      have M := Lib.hid hM; clear hM
      by_cases hlt : j < len0
      · obtain ⟨b, off, rfl, hc⟩ := (W0.out.reads.below M.out.below).2 (by omega)
        have hcj := hc j hlt
        clear hc
        generalize hz : z0.getD j 0 = z at hcj
        have HZ := Lib.hid hz; clear hz
        go_wp2_with fail
        refine (push_yes w wr w.heap.size 400 j c' a' z _ M.out (by omega)).mono ?_
        rintro e w2 ⟨rfl, a2, c2, hM2, _, _⟩
        rw [← HZ.out, take_snoc z0 (by omega)] at hM2
        have M2 := Lib.hid hM2; clear hM2
        go_wp2_with fail
        go_roundw
        case rel => exact ⟨j + 1, a2, c2, by omega, by go_num, M2.out⟩
        case measure => simp [intOf]; omega
      · obtain rfl : j = len0 := by omega
        obtain ⟨wo, rfl⟩ : ∃ wo : World, wo = wr := ⟨_, rfl⟩
        have MI : Hid (Mine w wo w.heap.size 400 (.slice a' j c') j (z0.map (Value.int .i64))) := Lib.hid (by have h := M.out; rwa [List.take_of_length_le (by omega)] at h)
        clear M hlt
        go_wp2_with fail
        refine (All w.heap.size 400 j c' a' _ wo MI.out.ring one_ints).mono ?_
        rintro e w2 ⟨rfl, hA, hF⟩
        have M2 := Lib.hid (MI.out.still hF)
        have HA := Lib.hid hA; have HF := Lib.hid hF
        clear hA hF
        go_wp2_with fail
        refine (All w.heap.size 400 j c' a' _ w2 M2.out.ring one_ints).mono ?_
        rintro e w3 ⟨rfl, hB, hG⟩
        have M3 := Lib.hid (M2.out.still hG)
        have HI : Hid (AllInts w3 wo.heap.size j) := Lib.hid (by have h := AllInts.of (HA.out.keep hG id); rwa [hl] at h)
        have hlt1 : wo.heap.size < w2.heap.size := HA.out.lt
        have hlt2 : w2.heap.size < w3.heap.size := hB.lt
        have hge : w.heap.size ≤ wo.heap.size := MI.out.below.size
        have hap1 : Hid (¬ Own w.heap.size (.slice a' j c') wo.heap.size) := Lib.hid (fun h => absurd (MI.out.ring.ownLt h) (Nat.lt_irrefl _))
        have hap2 : Hid (¬ Own w.heap.size (.slice a' j c') w2.heap.size) := Lib.hid (fun h => absurd (M2.out.ring.ownLt h) (Nat.lt_irrefl _))
        have HB := Lib.hid hB; clear hB hG HA HF M2 MI
        go_wp2_with fail
        go_loopw [10] (fun i wq => ∃ k : Nat, k ≤ j ∧ i = .int .i64 k ∧ AllInts wq wo.heap.size j ∧ Foot (fun x => x = wo.heap.size) w3 wq) (fun i _ => j - (intOf i).toNat)
        case atStart => exact ⟨0, Nat.zero_le _, rfl, HI.out, Foot.refl _ _⟩
        case round =>
          obtain ⟨k, hk, rfl, hI, hF⟩ := hrel
          have I := Lib.hid hI; have F := Lib.hid hF; clear hI hF
          by_cases hlt : k < j
          · obtain ⟨cs, hat, hsz, hcs⟩ := I.out
            obtain ⟨x, hx⟩ := hcs k hlt
            have hck : wr.cell? ⟨wo.heap.size, k, none⟩ = some (.int .i64 x) := (hat.cell k).trans hx
            have hfk : wr.frozen? ⟨wo.heap.size, k, none⟩ = false := hat.free k
            clear hat hsz hcs hx
            go_wp2_with fail
            go_roundw
            case rel => exact ⟨k + 1, by omega, by go_num, I.out.set _, F.out.setCell (p := ⟨wo.heap.size, k, none⟩) (fun _ => rfl) _⟩
            case measure => simp [intOf]; omega
          · obtain rfl : j = k := by omega
            clear hlt
            have M4 := Lib.hid (M3.out.stay F.out (fun x e => by subst e; exact hge) (fun x hx e => by subst e; exact hap1.out hx))
            have HB4 := Lib.hid (HB.out.keep F.out (fun e => by omega))
            have hz4 : w2.heap.size < wr.heap.size := Nat.lt_of_lt_of_le hlt2 F.out.size
            clear I M3 HI
            go_wp2_with fail
            refine (remove_any w wr w.heap.size 400 j c' a1 a' _ M4.out one_ints).mono ?_
            rintro e w5 ⟨⟨r5, b5, rfl⟩, a5, c5, hM5, hF5, hV5⟩
            have M5 := Lib.hid hM5
            have HB5 := Lib.hid (HB4.out.keep hF5 hap2.out)
            have hap5 : Hid (¬ Own w.heap.size (.slice a5 (leftN j a1) c5) w2.heap.size) := Lib.hid (fun h => by
              rcases h with h | h
              · exact hap2.out (.inl h)
              · exact hV5.apart (fun e => hap2.out (.inr e)) hz4 h)
            clear hM5 hF5 hV5 M4 HB4 F
            have hn5 := left_le j a1
            go_wp2_with fail
            refine (push_yes w w5 w.heap.size 400 (leftN j a1) c5 a5 7 _ M5.out (by omega)).mono ?_
            rintro e w6 ⟨rfl, a6, c6, hM6, hF6, _⟩
            have M6 := Lib.hid hM6
            have HR : Hid (ReadsI w6 (some ⟨w2.heap.size, 0, none⟩) j z0) := Lib.hid (by have h := (HB5.out.keep hF6 hap5.out).reads; rwa [hl] at h)
            have HL := Lib.hid (W0.out.reads.below M6.out.below)
            clear hM6 hF6 M5 HB5 hap5
            go_wp2_with fail
            refine (same _ a0 j j cap0 z0 w6 HR.out HL.out (by omega)).mono ?_
            rintro e w7 ⟨rfl, k7, rfl⟩
            have M7 := Lib.hid (M6.out.still ((Foot.refl _ w6).drewN k7))
            clear M6 HR HL
            have last : ∀ (n : Nat) (xs : List Value), xs.length = n + 1 → restOf (z0.map (Value.int .i64)) a1 ++ [Value.int .i64 7] = xs → xs[n]? = some (.int .i64 7) := by
              intro n xs h1 h2
              subst h2
              rw [List.length_append, List.length_singleton] at h1
              rw [List.getElem?_append_right (by omega), show n - (restOf (z0.map (Value.int .i64)) a1).length = 0 by omega]
              rfl
            have LA := Lib.hid last; clear last
            by_cases hin : 0 ≤ a1 ∧ a1 < j
            · obtain ⟨m, rfl⟩ : ∃ m, j = m + 1 := ⟨j - 1, by omega⟩
              have e1 : leftN (m + 1) a1 = m := by unfold leftN; rw [if_pos hin]; rfl
              rw [e1] at M7
              clear e1 hn5
              obtain ⟨hi1, hi2⟩ := hin
              go_wp2_with fail
              refine (Clear w.heap.size 400 (m + 1) c6 a6 _ (w6.drewN k7) M7.out.ring one_left).mono ?_
              rintro e w8 ⟨rfl, hA8, hR8, hF8⟩
              have M8 := Lib.hid (M7.out.step hR8 (hF8.mono fun _ _ h => .inl h) (fun g hg => by simp [Value.ownBlock] at hg))
              have hc8 : w8.cell? ⟨w6.heap.size, m, none⟩ = some (.int .i64 7) := by
                rw [(show At w8 w6.heap.size _ _ from hA8).cell, List.getElem?_toArray]
                exact LA.out m _ (by have := M7.out.ring.items.1; omega) rfl
              clear hA8 hR8 hF8 M7
              go_wp2_with fail
              refine (Len w.heap.size 400 0 0 none w8 M8.out.ring.at_ (by omega)).mono ?_
              rintro e w9 ⟨rfl, rfl⟩
              go_wp2_with fail
              refine (known _).mono ?_
              rintro e w9 ⟨rfl, hb⟩
              have HB9 := Lib.hid (M8.out.below.trans (hb.mono M8.out.below.size))
              clear hb
              go_wp2_with fail
              go_ret
              exact ⟨rfl, HB9.out⟩
            · have e1 : leftN j a1 = j := by unfold leftN; rw [if_neg hin]
              rw [e1] at M7
              clear e1 hn5
              have hout : a1 < 0 ∨ 0 ≤ a1 ∧ (j : Int) ≤ a1 := by omega
              clear hin
              go_wp2_with fail
              refine (Clear w.heap.size 400 (j + 1) c6 a6 _ (w6.drewN k7) M7.out.ring one_left).mono ?_
              rintro e w8 ⟨rfl, hA8, hR8, hF8⟩
              have M8 := Lib.hid (M7.out.step hR8 (hF8.mono fun _ _ h => .inl h) (fun g hg => by simp [Value.ownBlock] at hg))
              have hc8 : w8.cell? ⟨w6.heap.size, j, none⟩ = some (.int .i64 7) := by
                rw [(show At w8 w6.heap.size _ _ from hA8).cell, List.getElem?_toArray]
                exact LA.out j _ (by have := M7.out.ring.items.1; omega) rfl
              clear hA8 hR8 hF8 M7
              rcases hout with hout | ⟨ho1, ho2⟩
              all_goals
                go_wp2_with fail
                refine (Len w.heap.size 400 0 0 none w8 M8.out.ring.at_ (by omega)).mono ?_
                rintro e w9 ⟨rfl, rfl⟩
                go_wp2_with fail
                refine (known _).mono ?_
                rintro e w9 ⟨rfl, hb⟩
                have HB9 := Lib.hid (M8.out.below.trans (hb.mono M8.out.below.size))
                clear hb
                go_wp2_with fail
                go_ret
                exact ⟨rfl, HB9.out⟩


set_option maxRecDepth 100000 in
theorem lifted (os : Os) (started : os.Started) (H : Type) (enc : TypeId × Value → H) :
    ReturnsInHanded {} Try.checked os 5 .any (Rows.ringOwnSpec.pre6 enc Try.prog Try.f5 Rows.ringOwnRow.domain false) (Rows.ringOwnSpec.post enc Try.prog Try.f5 false true false false) := by
  refine returnsInHanded_of_change (C := Try.checked) own started (by kernel_rfl) Try.func5
    (ChangeSpec.witness6 (enc := enc) (C := Try.checked) false ⟨#[], #[.slice none 0 0, .int .i64 0], []⟩ 8 (by kernel_rfl) (by kernel_rfl) (by kernel_rfl) (by kernel_rfl)) ?_
  intro W base args ds gs before hval0 hW hcnd _
  have hval : ∀ (j : Nat) t v, Try.f5.params[j]? = some t → args[j]? = some v → Value.okWide Try.prog W .any base t v := hval0
  have hW' := hW
  obtain ⟨p, q, hA0, hV, rfl, hfz, hnd⟩ := hW
  have hA : DataW.TrodAll enc Try.prog W 0 (fun _ => true) true Try.f5.params.toList args.toList ds p := hA0
  rw [Try.params5] at hA hval
  obtain ⟨v0, vs0, d0, ds0, p0, q0, hargs, rfl, rfl, h0, r0⟩ := trodAll_cons hA
  obtain ⟨v1, vs1, d1, ds1, p1, q1, rfl, rfl, rfl, h1, r1⟩ := trodAll_cons r0
  obtain ⟨rfl, rfl, rfl⟩ := trodAll_nil r1
  obtain rfl : args = #[v0, v1] := by cases args; simp_all
  obtain ⟨rfl, rfl⟩ := trodVars_none hV
  obtain ⟨a0, len0, cap0, rfl⟩ := okWide_slice Try.underlying28 (hval 0 28 v0 rfl rfl)
  have k0 := h0
  have lt0 : ∀ x ∈ p0, x.block < W.heap.size := by obtain ⟨m, hm⟩ := k0; exact DataW.trod_lt m _ _ _ hm
  obtain ⟨z0, w0⟩ := openA0 h0
  obtain ⟨a1, rfl, rfl, rfl, w1⟩ := open_int Try.underlying3 (hval 1 3 v1 rfl rfl) h1
  clear hA0 hval0
  refine (walk a0 len0 cap0 z0 a1 W w0 w1).mono fun e W' ⟨he, bel⟩ => ?_
  subst he
  exact ⟨_, rfl, _, _, _, [], _, [], hW', trodAll_mk1 (shut_bool Try.underlying4 _), (trodAll_cons_mk (Below.trod laidOut (by kernel_rfl) (of_decide_eq_true (by kernel_rfl)) k0 bel lt0) (trodAll_cons_mk (shut_int Try.underlying3 w1) trodAll_mk0)), rfl, bel.frame _, fun h => by cases h⟩

theorem over : Rows.ringOwnRow.holds Try.pinned (OpenSpec.ofChange Rows.ringOwnSpec) :=
  OpenClaim.holds_of_wide 5 Try.f5 rfl rfl rfl rfl rfl rfl rfl ⟨rfl, rfl, rfl, rfl, rfl⟩ rfl rfl rfl rfl rfl (by kernel_rfl) Try.func5 (by kernel_rfl)
    (of_decide_eq_true (by kernel_rfl)) (by unfold Func.isWrapper; first | (rw [if_pos (by decide +kernel)]; kernel_rfl) | (rw [if_neg (by decide +kernel)]; exact ⟨rfl, rfl⟩))
    (fun os started H enc _ => lifted os started H enc)

theorem proved : Rows.RingOwnSaid := over
#print axioms proved
end Go.Proofs.Ytmiebedoijnnaaa.ringOwn
