/- Messages go through a Ring as they are, in their order, as many as there is room for. No condition. -/
import Derived.Test.YtmiebedoijnnaaaRows
import Derived.WalkKit
import Derived.ProofKit
import Derived.OpenShut
import Derived.ShutString
import Derived.ChangeOld
import Derived.Below
import Derived.Test.YtmiebedoijnnaaaRingKnown
import Derived.Test.YtmiebedoijnnaaaRingM
import Derived.Test.YtmiebedoijnnaaaOpen
import Derived.Deep.RegionWith
namespace Go.Proofs.Ytmiebedoijnnaaa.ringMsgs
open Go.ChangeShapes Go.WideShapes Go.ChangeAt Go.RowKit
open Go.ChangeMaps (open_string shut_string)
set_option linter.unusedVariables false

theorem own : ownKnob Try.prog.godebug = none := by kernel_rfl
theorem laidOut : laidOutB Try.prog = true := by kernel_rfl
open RingM Mem

/-- The messages that came in. -/
structure MsgsIn (w : World) (a : Option Addr) (len cap : Nat) (ms : List (ByteArray × Int)) : Prop where
  reads : ReadsM w a len ms
  le : len ≤ cap
  max : cap ≤ maxLen

theorem openA1 {H : Type} {enc : TypeId × Value → H} {w : World} {a : Option Addr} {len cap : Nat} {d : DataW H} {p : List MemPlace} (h : DataW.Trod enc Try.prog w 0 (fun _ => true) true 39 (.slice a len cap) d p) : ∃ ms, MsgsIn w a len cap ms := by
  obtain ⟨h1, h2, h3⟩ := open_fields Try.underlying39 Try.underlying44 (by kernel_rfl) (by kernel_rfl) (by decide) h
  by_cases hn : len = 0
  · subst hn
    exact ⟨[], ⟨rfl, fun h => absurd h (by omega)⟩, h1, h2⟩
  · obtain ⟨b, off, rfl, hi⟩ := h3 (by omega)
    have : ∀ i, i < len → ∃ z : ByteArray × Int, w.cell? ⟨b, off + i * 2, none⟩ = some (.string z.1) ∧ w.cell? ⟨b, off + i * 2 + 1, none⟩ = some (.int .i64 z.2) := by
      intro i hil
      obtain ⟨v0, _, _, c0, t0⟩ := hi i (by omega) 0 _ rfl
      obtain ⟨v1, _, _, c1, t1⟩ := hi i (by omega) 1 _ rfl
      obtain ⟨z0, rfl, _⟩ := cell_string Try.underlying9 t0
      obtain ⟨z1, rfl, _⟩ := cell_i64 Try.underlying2 t1
      exact ⟨(z0, z1), c0, c1⟩
    obtain ⟨F, hF⟩ := Go.Deep.choose_lt this
    refine ⟨(List.range len).map F, ⟨by simp, fun _ => ⟨b, off, rfl, fun j m hj => ?_⟩⟩, h1, h2⟩
    have hjl : j < len := by have := (List.getElem?_eq_some_iff.1 hj).1; simpa using this
    obtain rfl : F j = m := by simpa [hjl] using hj
    exact hF j hjl

theorem MsgsIn.cell {w w1 : World} {a : Option Addr} {len cap : Nat} {ms : List (ByteArray × Int)} (h : MsgsIn w a len cap ms) (hb : Below w.heap.size w w1) {j : Nat} (hj : j < len) :
    ∃ b off s x, a = some ⟨b, off, none⟩ ∧ ms[j]? = some (s, x) ∧ w1.cell? ⟨b, off + j * 2, none⟩ = some (.string s) ∧ w1.cell? ⟨b, off + j * 2 + 1, none⟩ = some (.int .i64 x) := by
  obtain ⟨b, off, ha, hc⟩ := (h.reads.below hb).2 (by omega)
  have hl := h.reads.1
  have hm : ms[j]? = some (ms[j]'(by omega)) := List.getElem?_eq_getElem (by omega)
  obtain ⟨h0, h1⟩ := hc j _ hm
  exact ⟨b, off, _, _, ha, hm, h0, h1⟩

set_option maxHeartbeats 4000000 in
set_option maxRecDepth 100000 in
theorem walk (a0 : Int) (a1 : Option Addr) (len1 cap1 : Nat) (z1 : List (ByteArray × Int)) (w : World) (w0 : (Lit.int .u8 a0).wf = true) (w1 : MsgsIn w a1 len1 cap1 z1) :
    Calls Try.prog 4 #[.int .u8 a0, .slice a1 len1 cap1] w fun e w' => e = .returned (.bool true) ∧ Below w.heap.size w w' := by
  have ha : 0 ≤ a0 ∧ a0 ≤ 255 := by
    simp [Lit.wf, IntKind.min, IntKind.max, IntKind.bits, IntKind.signed] at w0
    omega
  have hl := w1.reads.1
  have hcm := w1.le
  have hmx := w1.max
  unfold maxLen at hmx
  have W1 := Lib.hid w1; clear w1 w0
  obtain ⟨room, rfl⟩ := Int.eq_ofNat_of_zero_le ha.1
  have hroom : room ≤ 255 := by omega
  have C1 := Lib.hid (New_ok room w (by omega))
  by_cases hlen : 300 < len1
  · go_enter Try.func4, Try.ntmps4
    go_wp2_with fail
    refine C1.out.mono ?_
    rintro e w2 ⟨rfl, hR, hF⟩
    have HB := Lib.hid (Mine.of_new hR hF).below
    clear hR hF
    go_wp2_with fail
    refine (Ring.known _).mono ?_
    rintro e w3 ⟨rfl, hb⟩
    have HB2 := Lib.hid (HB.out.trans (hb.mono HB.out.size))
    clear hb
    go_wp2_with fail
    go_ret
    exact ⟨rfl, HB2.out⟩
  · go_enter Try.func4, Try.ntmps4
    go_wp2_with fail
    refine C1.out.mono ?_
    rintro e w2 ⟨rfl, hR, hF⟩
    have M1 := Lib.hid (Mine.of_new hR hF)
    clear hR hF C1
    go_wp2_with fail
    go_loopw [7] (fun i wr => ∃ (j n : Nat) (ar : Option Addr) (cr : Nat), j ≤ len1 ∧ n = min j room ∧ i = .int .i64 j ∧ Mine w wr w.heap.size room (.slice ar n cr) n (z1.take n)) (fun i _ => len1 - (intOf i).toNat)
    case atStart => exact ⟨0, 0, none, 0, Nat.zero_le _, by omega, rfl, M1.out⟩
    case round =>
      obtain ⟨j, n, ar, cr, hj, hn, rfl, hM⟩ := hrel
      have M := Lib.hid hM; clear hM
      by_cases hlt : j < len1
      · obtain ⟨b, off, s, x, rfl, hm, hc0, hc1⟩ := W1.out.cell M.out.below hlt
        have HM := Lib.hid hm; clear hm
        by_cases hjr : j < room
        · obtain rfl : j = n := by omega
          clear hn
          go_wp2_with fail
          refine (Push_room w.heap.size room j cr ar s x _ wr M.out.ring hjr).mono ?_
          rintro e w3 ⟨rfl, a3, c3, hR, hF, hV⟩
          have M3 := Lib.hid (M.out.step hR hF hV)
          rw [show z1.take j ++ [(s, x)] = z1.take (j + 1) by rw [List.take_add_one, HM.out]; rfl] at M3
          clear hR hF hV M
          go_wp2_with fail
          go_roundw
          case rel => exact ⟨j + 1, j + 1, a3, c3, by omega, by omega, by go_num, M3.out⟩
          case measure => simp [intOf]; omega
        · obtain rfl : n = room := by omega
          have hn' := Lib.hid hn; clear hn
          go_wp2_with fail
          refine (Push_full w.heap.size n cr ar s x _ wr M.out.ring).mono ?_
          rintro e w3 ⟨rfl, hF⟩
          have M3 := Lib.hid (M.out.still hF)
          clear hF M
          go_wp2_with fail
          go_roundw
          case rel => exact ⟨j + 1, n, ar, cr, by omega, by have := hn'.out; omega, by go_num, M3.out⟩
          case measure => simp [intOf]; omega
      · obtain rfl : j = len1 := by omega
        clear hlt
        have hb2 : n ≤ j := by omega
        have hb3 : n ≤ room := by omega
        have hnc : n ≤ cap1 := by omega
        have hnc' : (n : Int) ≤ (cap1 : Int) := by omega
        have hcs : n = j ∧ (j : Int) < room ∨ n = room ∧ (room : Int) ≤ j := by omega
        have Md := Lib.hid (M.out.still ((Foot.refl (fun _ => False) wr).drew))
        clear M hn
        rcases hcs with ⟨rfl, hq⟩ | ⟨rfl, hq⟩
        all_goals
          go_wp2_with fail
          go_region_with (first
            | (go_at_call 21; refine (All _ _ n cr ar _ wr.drew Md.out.ring).mono ?_; rintro e w3 ⟨rfl, hA, hF⟩; have M3 := Lib.hid (Md.out.still hF); have HR := Lib.hid (show ReadsM w3 (some ⟨wr.heap.size, 0, none⟩) n (z1.take n) from by have h := ReadsM.of_at hA; rwa [Md.out.ring.len] at h); have HL := Lib.hid ((W1.out.reads.below M3.out.below).take (k := n) (by omega)); clear hA hF)
            | (go_at_call 20; refine (msgs _ _ n n cap1 (z1.take n) w3 HR.out HL.out (by omega)).mono ?_; rintro e w4 ⟨rfl, k4, rfl⟩))
          have M4 := Lib.hid (M3.out.still ((Foot.refl (fun _ => False) w3).drewN k4))
          clear M3 HR HL Md
          go_wp2_with fail
          go_loopw [9] (fun i wr => ∃ (k m : Nat) (ax : Option Addr) (cx : Nat), k + m = n ∧ i = .int .i64 k ∧ Mine w wr w.heap.size _ (.slice ax m cx) m ((z1.take n).drop k)) (fun i _ => n - (intOf i).toNat)
          case atStart => exact ⟨0, n, ar, cr, by omega, rfl, M4.out⟩
          case round =>
            obtain ⟨k, m, ax, cx, hk, rfl, hM⟩ := hrel
            have M := Lib.hid hM; clear hM
            by_cases hlt : k < n
            · have hkl : k < z1.length := by omega
              obtain ⟨s, x, hm⟩ : ∃ s x, z1[k]? = some (s, x) := ⟨_, _, List.getElem?_eq_getElem hkl⟩
              obtain ⟨b, off, rfl, hcc⟩ := W1.out.reads.2 (by omega)
              obtain ⟨e0, e1⟩ := hcc k _ hm
              have hbl := World.block_lt_of_cell? w _ e0
              simp only at e0 e1 hbl
              obtain ⟨m', rfl⟩ : ∃ m', m = m' + 1 := ⟨m - 1, by omega⟩
              have hd : (z1.take n).drop k = (s, x) :: (z1.take n).drop (k + 1) := by
                have h1 : (z1.take n)[k]? = some (s, x) := by rw [List.getElem?_take, if_pos hlt]; exact hm
                have h2 := (List.getElem?_eq_some_iff.1 h1)
                obtain ⟨h3, h4⟩ := h2
                rw [List.drop_eq_getElem_cons h3, h4]
              have M' := M.out
              rw [hd] at M'
              have MM := Lib.hid M'
              rw [hl] at hkl
              have E0 := Lib.hid e0; have E1 := Lib.hid e1
              clear M' M hd hcc hm e0 e1
              go_wp2_with fail
              refine (Head_some w.heap.size _ m' cx ax s x _ _ MM.out.ring).mono ?_
              rintro e w5 ⟨rfl, hF5⟩
              have M5 := Lib.hid (MM.out.still (hF5.alloc (.cells #[.string s, .int .i64 x] 44)))
              have hno : ¬ Own w.heap.size (.slice ax (m' + 1) cx) w5.heap.size := fun h => absurd (MM.out.ring.ownLt h) (by have := hF5.size; omega)
              have HNO := Lib.hid hno
              clear hF5 MM hno
              go_wp2_with fail
              refine (Pop_some w.heap.size _ m' cx ax s x _ _ M5.out.ring).mono ?_
              rintro e w6 ⟨rfl, a6, c6, hR, hF, hV⟩
              have B := (At.new w5 44 #[.string s, .int .i64 x]).keep hF HNO.out
              have c10 : w6.cell? ⟨w5.heap.size, 0, none⟩ = some (.string s) := B.cell 0
              have c11 : w6.cell? ⟨w5.heap.size, 1, none⟩ = some (.int .i64 x) := B.cell 1
              have l10 := B.lt
              have M6 := Lib.hid (M5.out.step hR hF hV)
              have l6 : b < w6.heap.size := Nat.lt_of_lt_of_le hbl M6.out.below.size
              have c20 : w6.cell? ⟨b, off + k * 2, none⟩ = some (.string s) := (M6.out.below.cell (p := ⟨b, off + k * 2, none⟩) hbl).trans E0.out
              have c21 : w6.cell? ⟨b, off + k * 2 + 1, none⟩ = some (.int .i64 x) := (M6.out.below.cell (p := ⟨b, off + k * 2 + 1, none⟩) hbl).trans E1.out
              have hki : (k : Int) < (n : Int) := by omega
              clear hR hF hV B M5
              go_wp2_with fail
              go_quiet (fail)
              go_wp2_with fail
              go_roundw
              case rel => exact ⟨k + 1, m', a6, c6, by omega, by go_num, M6.out.still (((Foot.refl (fun _ => False) w6).alloc _).drewN _)⟩
              case measure => simp [intOf]; omega
            · obtain rfl : m = 0 := by omega
              have hkn : n ≤ k := by omega
              have hkn' : (n : Int) ≤ (k : Int) := by omega
              go_wp2_with fail
              refine (Pop_none w.heap.size _ cx ax _ _ M.out.ring).mono ?_
              rintro e w5 ⟨rfl, hF5⟩
              have M5 := Lib.hid (M.out.still (hF5.alloc (.cells #[.string ⟨#[]⟩, .int .i64 0] 44)))
              clear hF5 M
              go_wp2_with fail
              refine (Len w.heap.size _ 0 cx ax _ M5.out.ring.at_ (by omega)).mono ?_
              rintro e w6 ⟨rfl, rfl⟩
              go_wp2_with fail
              refine (Room w.heap.size _ 0 cx ax _ M5.out.ring.at_ (Nat.zero_le _) M5.out.ring.cap).mono ?_
              rintro e w6 ⟨rfl, k6, rfl⟩
              have HB := Lib.hid (M5.out.still ((Foot.refl (fun _ => False) _).drewN k6)).below
              clear M5
              go_wp2_with fail
              refine (Ring.known _).mono ?_
              rintro e w7 ⟨rfl, hb⟩
              have HB2 := Lib.hid (HB.out.trans (hb.mono HB.out.size))
              clear hb
              go_wp2_with fail
              go_ret
              exact ⟨rfl, HB2.out⟩


set_option maxRecDepth 100000 in
theorem lifted (os : Os) (started : os.Started) (H : Type) (enc : TypeId × Value → H) :
    ReturnsInHanded {} Try.checked os 4 .any (Rows.ringMsgsSpec.pre6 enc Try.prog Try.f4 Rows.ringMsgsRow.domain false) (Rows.ringMsgsSpec.post enc Try.prog Try.f4 false true false false) := by
  refine returnsInHanded_of_change (C := Try.checked) own started (by kernel_rfl) Try.func4
    (ChangeSpec.witness6 (enc := enc) (C := Try.checked) false ⟨#[], #[.int .u8 0, .slice none 0 0], []⟩ 8 (by kernel_rfl) (by kernel_rfl) (by kernel_rfl) (by kernel_rfl)) ?_
  intro W base args ds gs before hval0 hW hcnd _
  have hval : ∀ (j : Nat) t v, Try.f4.params[j]? = some t → args[j]? = some v → Value.okWide Try.prog W .any base t v := hval0
  have hW' := hW
  obtain ⟨p, q, hA0, hV, rfl, hfz, hnd⟩ := hW
  have hA : DataW.TrodAll enc Try.prog W 0 (fun _ => true) true Try.f4.params.toList args.toList ds p := hA0
  rw [Try.params4] at hA hval
  obtain ⟨v0, vs0, d0, ds0, p0, q0, hargs, rfl, rfl, h0, r0⟩ := trodAll_cons hA
  obtain ⟨v1, vs1, d1, ds1, p1, q1, rfl, rfl, rfl, h1, r1⟩ := trodAll_cons r0
  obtain ⟨rfl, rfl, rfl⟩ := trodAll_nil r1
  obtain rfl : args = #[v0, v1] := by cases args; simp_all
  obtain ⟨rfl, rfl⟩ := trodVars_none hV
  obtain ⟨a0, rfl, rfl, rfl, w0⟩ := open_int Try.underlying5 (hval 0 5 v0 rfl rfl) h0
  obtain ⟨a1, len1, cap1, rfl⟩ := okWide_slice Try.underlying39 (hval 1 39 v1 rfl rfl)
  have k1 := h1
  have lt1 : ∀ x ∈ p1, x.block < W.heap.size := by obtain ⟨m, hm⟩ := k1; exact DataW.trod_lt m _ _ _ hm
  obtain ⟨z1, w1⟩ := openA1 h1
  clear hA0 hval0
  refine (walk a0 a1 len1 cap1 z1 W w0 w1).mono fun e W' ⟨he, bel⟩ => ?_
  subst he
  exact ⟨_, rfl, _, _, _, [], _, [], hW', trodAll_mk1 (shut_bool Try.underlying4 _), (trodAll_cons_mk (shut_int Try.underlying5 w0) (trodAll_cons_mk (Below.trod laidOut (by kernel_rfl) (of_decide_eq_true (by kernel_rfl)) k1 bel lt1) trodAll_mk0)), rfl, bel.frame _, fun h => by cases h⟩

theorem over : Rows.ringMsgsRow.holds Try.pinned (OpenSpec.ofChange Rows.ringMsgsSpec) :=
  OpenClaim.holds_of_wide 4 Try.f4 rfl rfl rfl rfl rfl rfl rfl ⟨rfl, rfl, rfl, rfl, rfl⟩ rfl rfl rfl rfl rfl (by kernel_rfl) Try.func4 (by kernel_rfl)
    (of_decide_eq_true (by kernel_rfl)) (by unfold Func.isWrapper; first | (rw [if_pos (by decide +kernel)]; kernel_rfl) | (rw [if_neg (by decide +kernel)]; exact ⟨rfl, rfl⟩))
    (fun os started H enc _ => lifted os started H enc)

theorem proved : Rows.RingMsgsSaid := over
#print axioms proved
end Go.Proofs.Ytmiebedoijnnaaa.ringMsgs
