/- What is done with the timers of one instance touches no other one's: they go on as if that instance had never armed one; the chapter's example holds. No condition. -/
import Derived.Test.YtjpepnokijbhgaaRows
import Derived.WalkKit
import Derived.ProofKit
import Derived.OpenShut
import Derived.ShutString
import Derived.ChangeOld
import Derived.Below
import Derived.Test.YtjpepnokijbhgaaApart5
import Derived.Deep.RegionHeld3
import Derived.Deep.DeepCutAuto
import Derived.Deep.CutBlock
namespace Go.Proofs.Ytjpepnokijbhgaa.wheelApart
open Go.ChangeShapes Go.WideShapes Go.ChangeAt Go.RowKit
open Go.ChangeMaps (open_string shut_string)
set_option linter.unusedVariables false
set_option linter.unusedSimpArgs false

theorem own : ownKnob Try.prog.godebug = none := by kernel_rfl
theorem laidOut : laidOutB Try.prog = true := by kernel_rfl
open Whl Mem MapK MapF Tim

theorem openA0 {H : Type} {enc : TypeId × Value → H} {w : World} {a : Option Addr} {len cap : Nat} {d : DataW H} {p : List MemPlace} (h : DataW.Trod enc Try.prog w 0 (fun _ => true) true 47 (.slice a len cap) d p) : ∃ z, Row16 w a len cap z := openRow16 h

def RelA (W : World) (p q bf g : Nat) (cs : Array Value) (j : Nat) (wr : World) : Prop := ∃ L, L.length ≤ j ∧ Under 9 L ∧ TwinB W wr p q bf cs L (clearL g L)

set_option maxHeartbeats 4000000 in
set_option maxRecDepth 100000 in
theorem walk (a0 : Option Addr) (len0 cap0 : Nat) (z0 : Nat → Int) (a1 : Int) (w : World) (w0 : Row16 w a0 len0 cap0 z0) (w1 : (Lit.int .u8 a1).wf = true) :
    Calls Try.prog 6 #[.slice a0 len0 cap0, .int .u8 a1] w fun e w' => e = .returned (.bool true) ∧ Below w.heap.size w w' := by
  have hz0 := Nat.le_trans w0.le w0.max
  unfold maxLen at hz0
  have W0 := Lib.hid w0
  have h1 : 0 ≤ a1 ∧ a1 ≤ 255 := by
    simp [Lit.wf, IntKind.min, IntKind.max, IntKind.bits, IntKind.signed] at w1
    omega
  have HB0 : Hid (Below w.heap.size w w) := Lib.hid (Below.refl _ _)
  clear w0 w1
  by_cases hl0 : 100 < len0
  · clear W0
    go_enter Try.func6, Try.ntmps6
    go_wp2_with fail
    refine (New w).mono ?_
    rintro e w1 ⟨rfl, hw, hf⟩
    have M1 := Lib.hid (Mine.of_new HB0.out hw hf)
    clear hw hf
    go_wp2_with fail
    refine (New w1).mono ?_
    rintro e w2 ⟨rfl, hw, hf⟩
    have M2 := Lib.hid (M1.out.still hf)
    clear hw hf M1
    go_wp2_with fail
    refine (known _).mono ?_
    rintro e w9 ⟨rfl, hb⟩
    have HB9 := Lib.hid (M2.out.below.trans (hb.mono M2.out.below.size))
    clear hb
    go_wp2_with fail
    go_ret
    exact ⟨rfl, HB9.out⟩
  have hl0' : len0 ≤ 100 := by omega
  clear hl0
  obtain ⟨g, hg⟩ : ∃ g : Nat, a1 % 4 = g := ⟨(a1 % 4).toNat, by omega⟩
  have hg1 : g ≤ 3 := by omega
  have htm : a1.tmod 4 = g := by rw [Int.tmod_eq_emod_of_nonneg h1.1, hg]
  go_enter Try.func6, Try.ntmps6
  go_wp2_with fail
  refine (New w).mono ?_
  rintro e w1 ⟨rfl, hw, hf⟩
  have M1 := Lib.hid (Mine.of_new HB0.out hw hf)
  have hlt := hw.at_.lt
  clear hw hf
  go_wp2_with fail
  refine (New w1).mono ?_
  rintro e w2 ⟨rfl, hw, hf⟩
  have T2 : Hid (TwinE w w2 w.heap.size w1.heap.size [] (clearL g [])) := Lib.hid ⟨none, none, M1.out.still hf, Mine.of_new M1.out.below hw hf, by omega, fun b h => by cases h⟩
  clear hw hf M1
  generalize w1.heap.size = q at *
  go_wp2_with fail
  go_loopw [9] (fun i wr => ∃ (j : Nat) (L : TRows), j ≤ len0 ∧ i = .int .i64 j ∧ L.length ≤ j ∧ Hid (Under 9 L) ∧ Hid (TwinE w wr w.heap.size q L (clearL g L))) (fun i _ => len0 - (intOf i).toNat)
  case atStart => exact ⟨0, [], Nat.zero_le _, rfl, Nat.zero_le _, Lib.hid (Under.nil 9), T2⟩
  case round =>
    obtain ⟨j, L, hj, rfl, hL, HU, HT⟩ := hrel
    by_cases hjn : j < len0
    · obtain ⟨b, off, rfl, c0, hx⟩ := W0.out.cell HT.out.below hjn
      generalize z0 j = x at c0 hx
      obtain ⟨hx0, hx1⟩ := hx
      have hnew := World.new_ne wr ⟨b, off + j, none⟩ c0
      go_wp2_with fail
      go_region_held3 (fun w' => w'.cell? ⟨b, off + j, none⟩ = some (.int .u16 x)) (first | go_keep) (first | fail)
      have hal : ∀ o : Obj, (wr.alloc o).cell? ⟨b, off + j, none⟩ = some (.int .u16 x) := fun o => Ref5.hold1 c0 ((Foot.refl (fun _ => False) wr).alloc o)
      go_wp2_with fail
      have hi : I64 (x % 4) := by unfold I64; omega
      have ht : I64 (x / 4 % 6) := by unfold I64; omega
      have hn : 1 ≤ 1 + x / 24 % 9 ∧ 1 + x / 24 % 9 ≤ 9 := by omega
      have hmay : may (x % 4, x / 4 % 6) (1 + x / 24 % 9) := ⟨⟨by simp only; omega, by simp only; omega⟩, by omega, by omega⟩
      generalize x % 4 = i at *
      generalize x / 4 % 6 = t at *
      generalize 1 + x / 24 % 9 = n at *
      have HTB : Hid (TwinB w (wr.alloc (.cells #[.int .i64 i, .int .i64 t] 31)).drew w.heap.size q wr.heap.size #[.int .i64 i, .int .i64 t] L (clearL g L)) := Lib.hid ⟨HT.out.still (((Foot.refl _ wr).alloc _).drew), At.new wr _ _⟩
      have hS : armS (i, t) n L = armL (i, t) n L := if_pos hmay
      have hS2 : armS (i, t) n (clearL g L) = armL (i, t) n (clearL g L) := if_pos hmay
      have CA := Lib.hid fun w' h => by have := arm1 w w' w.heap.size q wr.heap.size L (clearL g L) #[.int .i64 i, .int .i64 t] i t n h hi ht; rw [hS] at this; exact this
      have CB := Lib.hid fun w' h => by have := arm2 w w' w.heap.size q wr.heap.size (armL (i, t) n L) (clearL g L) #[.int .i64 i, .int .i64 t] i t n h hi ht; rw [hS2] at this; exact this
      have HC : Hid (clearL g (armL (i, t) n L) = if i = g then clearL g L else armL (i, t) n (clearL g L)) := Lib.hid (clear_arm HT.out.good.1 hmay ⟨hi.2, ht.2⟩)
      have HLn := Lib.hid (Nat.le_trans (length_arm (f := (i, t)) (n := n) L) (Nat.succ_le_succ hL))
      have HU2 := Lib.hid (HU.out.arm (f := (i, t)) hn.2)
      generalize armR (i, t) n = r at *
      generalize wr.heap.size = bf at *
      clear hS hS2 hmay hi ht hn hnew c0 hal
      refine (CA.out _ HTB.out).mono ?_
      rintro e w5 ⟨rfl, hT5⟩
      have T5 := Lib.hid hT5
      have d0 : w5.cell? ⟨bf, 0, none⟩ = some (.int .i64 i) := T5.out.box.cell 0
      have d1 : w5.cell? ⟨bf, 1, none⟩ = some (.int .i64 t) := T5.out.box.cell 1
      clear hT5 HTB
      by_cases hig : i = g
      · have hne : (i != (g : Int)) = false := by simp [hig]
        rw [if_pos hig] at HC
        clear hig
        go_wp2_with fail
        go_roundw
        case rel => exact ⟨j + 1, _, by omega, by go_num, HLn.out, HU2, Lib.hid (by rw [HC.out]; exact T5.out.twin)⟩
        case measure => simp [intOf]; omega
      · have hne : (i != (g : Int)) = true := by simp [hig]
        rw [if_neg hig] at HC
        clear hig
        go_wp2_with fail
        refine (CB.out _ T5.out).mono ?_
        rintro e w6 ⟨rfl, hT6⟩
        have T6 := Lib.hid hT6
        clear hT6 d0 d1
        go_wp2_with fail
        go_roundw
        case rel => exact ⟨j + 1, _, by omega, by go_num, HLn.out, HU2, Lib.hid (by rw [HC.out]; exact T6.out.twin)⟩
        case measure => simp [intOf]; omega
    · obtain rfl : j = len0 := by omega
      clear hjn
      have hLb : L.length ≤ 1000000 := by omega
      have hcl := length_clear g L
      have HCt := Lib.hid (clear_twice g L)
      have hwr : IntKind.i64.wrap ((L.length : Int) - ((clearL g L).length : Int)) = (L.length : Int) - ((clearL g L).length : Int) := by rw [IntKind.wrap_i64]; omega
      go_wp2_with fail
      refine (len1 w _ _ q L (clearL g L) HT.out).mono ?_
      rintro e w4 ⟨rfl, rfl⟩
      go_wp2_with fail
      refine (len2 w _ _ q L (clearL g L) HT.out).mono ?_
      rintro e w4 ⟨rfl, rfl⟩
      go_wp2_with fail
      refine (clear1 w _ _ q L (clearL g L) g HT.out hLb rfl rfl).mono ?_
      rintro e w4 ⟨rfl, hT4⟩
      have T4 := Lib.hid hT4
      clear hT4 HT
      go_wp2_with fail
      refine (clear1 w _ _ q (clearL g L) (clearL g L) g T4.out (by omega) (r := 0) (by rw [HCt.out]; omega) HCt.out).mono ?_
      rintro e w5 ⟨rfl, hT5⟩
      have T5 := Lib.hid hT5
      have HU5 := Lib.hid (HU.out.clear (g : Int))
      have hMb : (clearL g L).length ≤ 1000000 := by omega
      clear hT5 T4 HU
      generalize clearL (g : Int) L = M at *
      go_wp2_with fail
      go_loopw [12] (fun i wx => ∃ (m : Nat) (N : TRows), m ≤ 10 ∧ i = .int .i64 m ∧ N.length ≤ 1000000 ∧ Hid (Under (9 - m) N) ∧ Hid (TwinE w wx w.heap.size q N N)) (fun i _ => 10 - (intOf i).toNat)
      case atStart => exact ⟨0, M, by omega, rfl, hMb, HU5, T5⟩
      case round =>
        obtain ⟨m, N, hm, rfl, hNb, HUx, HTx⟩ := hrel
        by_cases hmn : m < 10
        · have hmn' : (m : Int) < 10 := by omega
          have HNl := Lib.hid (Nat.le_trans (length_tick N) hNb)
          have HU6 : Hid (Under (9 - (m + 1 : Nat)) (tickL N)) := Lib.hid (by have := HUx.out.tick; rw [show (9 : Int) - (m : Nat) - 1 = 9 - (m + 1 : Nat) by omega] at this; exact this)
          go_wp2_with fail
          refine (tick1 w _ _ q N N HTx.out hNb).mono ?_
          rintro e w6 ⟨a6, d6, rfl, hT6, hF⟩
          have T6 := Lib.hid hT6
          have F6 := Lib.hid hF
          clear hT6 hF
          go_wp2_with fail
          refine (tick2 w _ _ q _ N T6.out hNb F6.out).mono ?_
          rintro e w7 ⟨a7, d7, rfl, hT7, hF7, hF6⟩
          have T7 := Lib.hid hT7
          have CS := Lib.hid (Ref5.same _ _ a6 a7 d6 d7 (firedL N) w7 hF6 hF7)
          clear hT7 hF7 hF6 F6 T6
          go_wp2_with fail
          refine CS.out.mono ?_
          rintro e w8 ⟨rfl, dn, rfl⟩
          go_wp2_with fail
          go_roundw
          case rel => exact ⟨m + 1, tickL N, by omega, by go_num, HNl.out, HU6, Lib.hid (T7.out.still ((Foot.refl _ w7).drewN dn))⟩
          case measure => simp [intOf]; omega
        · obtain rfl : m = 10 := by omega
          obtain rfl : N = [] := HUx.out.none HTx.out.good.1 (by omega)
          clear hmn
          go_wp2_with fail
          refine (len1 w _ _ q _ _ HTx.out).mono ?_
          rintro e w6 ⟨rfl, rfl⟩
          go_wp2_with fail
          refine (known _).mono ?_
          rintro e w9 ⟨rfl, hb⟩
          have HB9 := Lib.hid (HTx.out.below.trans (hb.mono HTx.out.below.size))
          clear hb
          go_wp2_with fail
          go_ret
          exact ⟨rfl, HB9.out⟩

set_option maxRecDepth 100000 in
theorem lifted (os : Os) (started : os.Started) (H : Type) (enc : TypeId × Value → H) :
    ReturnsInHanded {} Try.checked os 6 .any (Rows.wheelApartSpec.pre6 enc Try.prog Try.f6 Rows.wheelApartRow.domain false) (Rows.wheelApartSpec.post enc Try.prog Try.f6 false true false false) := by
  refine returnsInHanded_of_change (C := Try.checked) own started (by kernel_rfl) Try.func6
    (ChangeSpec.witness6 (enc := enc) (C := Try.checked) false ⟨#[], #[.slice none 0 0, .int .u8 0], []⟩ 8 (by kernel_rfl) (by kernel_rfl) (by kernel_rfl) (by kernel_rfl)) ?_
  intro W base args ds gs before hval0 hW hcnd _
  have hval : ∀ (j : Nat) t v, Try.f6.params[j]? = some t → args[j]? = some v → Value.okWide Try.prog W .any base t v := hval0
  have hW' := hW
  obtain ⟨p, q, hA0, hV, rfl, hfz, hnd⟩ := hW
  have hA : DataW.TrodAll enc Try.prog W 0 (fun _ => true) true Try.f6.params.toList args.toList ds p := hA0
  rw [Try.params6] at hA hval
  obtain ⟨v0, vs0, d0, ds0, p0, q0, hargs, rfl, rfl, h0, r0⟩ := trodAll_cons hA
  obtain ⟨v1, vs1, d1, ds1, p1, q1, rfl, rfl, rfl, h1, r1⟩ := trodAll_cons r0
  obtain ⟨rfl, rfl, rfl⟩ := trodAll_nil r1
  obtain rfl : args = #[v0, v1] := by cases args; simp_all
  obtain ⟨rfl, rfl⟩ := trodVars_none hV
  obtain ⟨a0, len0, cap0, rfl⟩ := okWide_slice Try.underlying47 (hval 0 47 v0 rfl rfl)
  have k0 := h0
  have lt0 : ∀ x ∈ p0, x.block < W.heap.size := by obtain ⟨m, hm⟩ := k0; exact DataW.trod_lt m _ _ _ hm
  obtain ⟨z0, w0⟩ := openA0 h0
  obtain ⟨a1, rfl, rfl, rfl, w1⟩ := open_int Try.underlying5 (hval 1 5 v1 rfl rfl) h1
  clear hA0 hval0
  refine (walk a0 len0 cap0 z0 a1 W w0 w1).mono fun e W' ⟨he, bel⟩ => ?_
  subst he
  exact ⟨_, rfl, _, _, _, [], _, [], hW', trodAll_mk1 (shut_bool Try.underlying4 _), (trodAll_cons_mk (Below.trod laidOut (by kernel_rfl) (of_decide_eq_true (by kernel_rfl)) k0 bel lt0) (trodAll_cons_mk (shut_int Try.underlying5 w1) trodAll_mk0)), rfl, bel.frame _, fun h => by cases h⟩

theorem over : Rows.wheelApartRow.holds Try.pinned (OpenSpec.ofChange Rows.wheelApartSpec) :=
  OpenClaim.holds_of_wide 6 Try.f6 rfl rfl rfl rfl rfl rfl rfl ⟨rfl, rfl, rfl, rfl, rfl⟩ rfl rfl rfl rfl rfl (by kernel_rfl) Try.func6 (by kernel_rfl)
    (of_decide_eq_true (by kernel_rfl)) (by unfold Func.isWrapper; first | (rw [if_pos (by decide +kernel)]; kernel_rfl) | (rw [if_neg (by decide +kernel)]; exact ⟨rfl, rfl⟩))
    (fun os started H enc _ => lifted os started H enc)

theorem proved : Rows.WheelApartSaid := over
#print axioms proved
end Go.Proofs.Ytjpepnokijbhgaa.wheelApart
