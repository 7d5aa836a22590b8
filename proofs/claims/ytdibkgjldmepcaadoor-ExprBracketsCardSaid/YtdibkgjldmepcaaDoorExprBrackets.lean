/- Brackets round a whole printed text and round a part of one change nothing of the trees that are read but their places; the chapter's examples hold. No condition; the variables of strconv and math/bits are laid as their initialisers lay them (tied). -/
import Derived.Test.YtdibkgjldmepcaaDoorRows
import Derived.WalkKit
import Derived.ProofKit
import Derived.OpenShut
import Derived.ShutString
import Derived.ChangeOld
import Derived.Below
import Derived.Test.YtdibkgjldmepcaaDoorPk
import Derived.Test.YtdibkgjldmepcaaDoorPn
import Derived.Test.YtdibkgjldmepcaaDoorCards
import Derived.Test.YtdibkgjldmepcaaDoorTie
import Derived.Test.YtdibkgjldmepcaaDoorTabL
import Derived.SevenTiedAt
import Derived.LaidMore
import Derived.Stop.Joined
namespace Go.Proofs.YtdibkgjldmepcaaDoor.exprBrackets
open Go.ChangeShapes Go.WideShapes Go.ChangeAt Go.RowKit
open Go.ChangeMaps (open_string shut_string)
set_option linter.unusedVariables false
set_option linter.unusedSimpArgs false

open Go.Proofs.YtdibkgjldmepcaaDoor.Lex (listed door_met of_laid)
theorem own : ownKnob Tryd.prog.godebug = none := by kernel_rfl
theorem laidOut : laidOutB Tryd.prog = true := by kernel_rfl
open Mem Lex Gen Xp

theorem openA0 {H : Type} {enc : TypeId × Value → H} {w : World} {a : Option Addr} {len cap : Nat} {d : DataW H} {p : List MemPlace} (h : DataW.Trod enc Tryd.prog w 0 (fun _ => true) true 26 (.slice a len cap) d p) : ∃ zs, IntsIn w a len cap zs :=
  open_ints_in Tryd.underlying26 Tryd.underlying3 (by kernel_rfl) h
theorem scope_laid (w : World) : Foot (fun _ => False) w ((w.alloc (.cells #[.string { data := #[120] }] 9)).alloc (.cells #[.slice (some ⟨w.heap.size, 0, none⟩) 1 1, .slice none 0 0, .slice none 0 0, .slice none 0 0] 36)) ∧ Names ((w.alloc (.cells #[.string { data := #[120] }] 9)).alloc (.cells #[.slice (some ⟨w.heap.size, 0, none⟩) 1 1, .slice none 0 0, .slice none 0 0, .slice none 0 0] 36)) (fun b => b < w.heap.size + 2) (.slice (some ⟨w.heap.size, 0, none⟩) 1 1) [[120]] ∧ At ((w.alloc (.cells #[.string { data := #[120] }] 9)).alloc (.cells #[.slice (some ⟨w.heap.size, 0, none⟩) 1 1, .slice none 0 0, .slice none 0 0, .slice none 0 0] 36)) (w.heap.size + 1) 36 #[.slice (some ⟨w.heap.size, 0, none⟩) 1 1, .slice none 0 0, .slice none 0 0, .slice none 0 0] := by
  have a1 := At.new w 9 #[.string { data := #[120] }]
  have f1 := (Foot.refl (fun _ => False) w).alloc (.cells #[.string { data := #[120] }] 9)
  have s1 := size_alloc w (.cells #[.string { data := #[120] }] 9)
  generalize w.alloc (.cells #[.string { data := #[120] }] 9) = w1 at *
  have a3 := At.new w1 36 #[.slice (some ⟨w.heap.size, 0, none⟩) 1 1, .slice none 0 0, .slice none 0 0, .slice none 0 0]
  have f3 := (Foot.refl (fun _ => False) w1).alloc (.cells #[.slice (some ⟨w.heap.size, 0, none⟩) 1 1, .slice none 0 0, .slice none 0 0, .slice none 0 0] 36)
  generalize w1.alloc (.cells #[.slice (some ⟨w.heap.size, 0, none⟩) 1 1, .slice none 0 0, .slice none 0 0, .slice none 0 0] 36) = w3 at *
  refine ⟨f1.trans f3 fun _ _ h => h, ?_, by rw [s1] at a3; exact a3⟩
  exact names_laid (l := [[120]]) (a1.keep f3 id) (show w.heap.size < w.heap.size + 2 by omega) (by intro s hs; simp only [List.mem_cons, List.not_mem_nil, or_false] at hs; rcases hs with rfl; unfold Ident; decide) (by decide)
theorem par_mk (n : Nat) (l : Bytes) : (({ data := #[40] } : ByteArray) ++ mk (par n l)) ++ ({ data := #[41] } : ByteArray) = mk (par (n + 1) l) := by
  refine bs_inj ?_
  simp only [bs_append, bs_mk, par]
  rfl
theorem around_mk (l : Bytes) : (({ data := #[48, 32, 43, 32, 40] } : ByteArray) ++ mk l) ++ ({ data := #[41, 32, 42, 32, 49] } : ByteArray) = mk (around l) := by
  refine bs_inj ?_
  simp only [bs_append, bs_mk, around]
  rfl

set_option maxHeartbeats 4000000 in
set_option maxRecDepth 100000 in
theorem walk (a0 : Option Addr) (len0 cap0 : Nat) (z0 : List Int) (a1 : Int) (w : World) (w0 : IntsIn w a0 len0 cap0 z0) (w1 : (Lit.int .u8 a1).wf = true) (hT : Vars w) :
    Calls Tryd.prog 5 #[.slice a0 len0 cap0, .int .u8 a1] w fun e w' => e = .returned (.bool true) ∧ Below w.heap.size w w' := by
  have hu : 0 ≤ a1 ∧ a1 ≤ 255 := by
    simp [Lit.wf, IntKind.min, IntKind.max, IntKind.bits, IntKind.signed] at w1
    omega
  have HV := Lib.hid hT
  have W0 := Lib.hid w0
  clear w0 hT w1
  by_cases hl : len0 ≤ 100
  case neg =>
    have hl2 : (100 : Int) < len0 := by omega
    clear hl
    go_enter Tryd.func5, Tryd.ntmps5
    go_wp2_with fail
    refine (known_c _ HV.out).mono ?_
    rintro e w1 ⟨rfl, hf⟩
    have HF := Lib.hid hf
    clear hf
    go_wp2_with fail
    go_ret
    exact ⟨rfl, HF.out.below (fun _ _ h => h.elim) (Nat.le_refl _)⟩
  have hl2 : ¬ (100 : Int) < len0 := by omega
  obtain ⟨F3, N0, A3⟩ := scope_laid w
  have HF3 := Lib.hid F3
  have HN0 := Lib.hid N0
  clear F3 N0
  go_enter Tryd.func5, Tryd.ntmps5
  go_upto_region 4 with fail
  generalize hW3 : ((w.alloc (.cells #[.string { data := #[120] }] 9)).alloc (.cells #[.slice (some ⟨w.heap.size, 0, none⟩) 1 1, .slice none 0 0, .slice none 0 0, .slice none 0 0] 36)) = W3 at *
  have hs3 : W3.heap.size = w.heap.size + 2 := by rw [← hW3]; simp
  clear hW3
  have c0 : W3.cell? ⟨w.heap.size + 1, 0, none⟩ = some (.slice (some ⟨w.heap.size, 0, none⟩) 1 1) := A3.cell 0
  have c1 : W3.cell? ⟨w.heap.size + 1, 1, none⟩ = some (.slice none 0 0) := A3.cell 1
  have c2 : W3.cell? ⟨w.heap.size + 1, 2, none⟩ = some (.slice none 0 0) := A3.cell 2
  have c3 : W3.cell? ⟨w.heap.size + 1, 3, none⟩ = some (.slice none 0 0) := A3.cell 3
  have hX := (Foot.refl (fun _ => False) W3).alloc (.cells #[.slice a0 len0 cap0, .int .i64 0] 40)
  have hR : At (W3.alloc (.cells #[.slice a0 len0 cap0, .int .i64 0] 40)) (w.heap.size + 2) 40 #[.slice a0 len0 cap0, .int .i64 0] := by rw [← hs3]; exact At.new W3 _ _
  have F4 := HF3.out.trans hX fun _ _ h => h
  have hsrc := src_in W0.out F4 (by omega) (w.heap.size + 2) hR (by omega)
  have MC := made_c (w.heap.size + 2) (fun b => b < w.heap.size + 2) (Nat.lt_irrefl _) _ _ _ _ _ [] [] [] 3 (by decide) _ hsrc (HN0.out.keep hX fun _ h => h.elim) names_none names_none names_none
  have hsz4 := size_alloc W3 (.cells #[.slice a0 len0 cap0, .int .i64 0] 40)
  have HF4 := Lib.hid F4
  clear A3 hX hR F4 hsrc HN0 HF3 W0
  go_wp2_with fail
  generalize W3.alloc (.cells #[.slice a0 len0 cap0, .int .i64 0] 40) = W4 at *
  refine MC.mono ?_
  rintro e w4 ⟨x, k, n, s, a, m, c, p, rfl, hok, hnest, hsize, htr, hpr, hf⟩
  clear MC c0 c1 c2 c3 hpr
  have hf5 := (HF4.out.trans hf fun b hb (h : b = w.heap.size + 2) => by omega).alloc (.cells #[.int .i64 k, .int .i64 n, .string s, .slice a m c, .int .i64 p] 24)
  have hx5 := (Foot.refl (fun _ => False) w4).alloc (.cells #[.int .i64 k, .int .i64 n, .string s, .slice a m c, .int .i64 p] 24)
  have HE := Lib.hid (At.new w4 24 #[.int .i64 k, .int .i64 n, .string s, .slice a m c, .int .i64 p])
  have HT := Lib.hid (htr.still hx5)
  have HF := Lib.hid hf5
  have HOK := Lib.hid hok
  have hn6 : nestX x ≤ 6 := hnest
  have hz15 : sizeX x ≤ 15 := hsize
  have htl := hok.textlen
  clear hf5 hx5 hf htr hnest hsize hok HF4
  have PX := fun P W hW hT => xprint_c HOK.out P (.agg #[.int .i64 k, .int .i64 n, .string s, .slice a m c, .int .i64 p]) W hW hT (by omega)
  obtain ⟨R, hR4, hRe⟩ : ∃ R : Nat, R ≤ 3 ∧ a1.tmod 4 = (R : Int) := by
    have ht : a1.tmod 4 = a1 % 4 := Int.tmod_eq_emod_of_nonneg hu.1
    exact ⟨(a1 % 4).toNat, by omega, by rw [ht]; omega⟩
  have hcv : IntKind.i64.wrap a1 = a1 := by rw [IntKind.wrap_i64]; omega
  obtain ⟨b0, b1, b2, b3, b4⟩ := cells5 HE.out
  go_wp2_with fail
  generalize hg4 : w4.heap.size = g4 at *
  generalize w4.alloc (.cells #[.int .i64 k, .int .i64 n, .string s, .slice a m c, .int .i64 p] 24) = W5 at *
  clear b0 b1 b2 b3 b4 hg4
  refine (PX _ _ (HV.out.keep HF.out) HT.out).mono ?_
  rintro e w6 ⟨rfl, hf⟩
  have HF := Lib.hid (HF.out.trans hf fun _ _ h => h)
  have HE := Lib.hid (HE.out.keep hf id)
  have HT := Lib.hid (HT.out.still hf)
  clear hf
  go_wp2_with fail
  have HW5 := Lib.hid (rfl : True = True)
  go_loopw [7, 8] (fun t i wr => ∃ j : Nat, t = .string (mk (par j (textX x))) ∧ i = .int .i64 j ∧ j ≤ R ∧ Hid (Foot (fun _ => False) w6 wr)) (fun t i _ => R - (intOf i).toNat)
  case atStart => exact ⟨0, rfl, rfl, Nat.zero_le _, Lib.hid (Foot.refl _ _)⟩
  case round =>
    obtain ⟨j, rfl, rfl, hj, HR⟩ := hrel
    have hpm := par_mk j (textX x)
    have hps : (mk (par j (textX x))).size ≤ 1000 := by rw [mk_size, par_len]; omega
    generalize hP1 : mk (par j (textX x)) = P1 at *
    generalize hP2 : mk (par (j + 1) (textX x)) = P2 at *
    have hz1 : ¬ 9223372036854775807 < 1 + P1.size := by omega
    have hz2 : ¬ 9223372036854775807 < 1 + P1.size + 1 := by omega
    by_cases hjR : j < R
    · have hjI : (j : Int) < R := by omega
      go_wp2_with fail
      go_roundw
      case rel => exact ⟨j + 1, by first | (rw [hP2]; done) | (rw [hP2]; exact congrArg Value.string hpm), by go_num, by omega, HR⟩
      case measure => simp [intOf]; omega
    · obtain rfl : j = R := by omega
      have hjI : ¬ (j : Int) < j := by omega
      obtain ⟨tx, y, hsm, hout, hparse⟩ := par_read HOK.out j (by omega) (by omega)
      have RC := fun W hW => read_c (mk (par j (textX x))) (by rw [hP1]; omega) _ y _ W hW (by rw [bs_mk]; exact hout) hparse
      rw [hP1] at RC
      obtain ⟨ty, z, har, hout2, hparse2⟩ := around_read HOK.out (by omega) (by omega)
      have RD := fun W hW => read_c (mk (around (textX x))) (by rw [mk_size]; simp only [around, List.length_append, List.length_cons, List.length_nil]; omega) _ z _ W hW (by rw [bs_mk]; exact hout2) hparse2
      rw [← around_mk] at RD
      have HSM := Lib.hid hsm.symm.sameB
      simp only [List.length_singleton, decide_true] at RC RD
      have hzT : (mk (textX x)).size ≤ 1000 := by rw [mk_size]; omega
      have hf := HR.out
      clear hsm hout hparse hout2 hparse2 hpm hP1 hP2 HR htl
      generalize mk (textX x) = T at *
      have hz3 : ¬ 9223372036854775807 < 5 + T.size := by omega
      have hz4 : ¬ 9223372036854775807 < 5 + T.size + 5 := by omega
      have HF := Lib.hid (HF.out.trans hf fun _ _ h => h)
      have HE := Lib.hid (HE.out.keep hf id)
      have HT := Lib.hid (HT.out.still hf)
      clear hf
      go_wp2_with fail
      refine (RC _ (HV.out.keep HF.out)).mono ?_
      rintro e w7 ⟨k1, n1, s1, a1', m1, c1, p1, rfl, hty, hf0⟩
      have hf := hf0.alloc (.cells #[.int .i64 k1, .int .i64 n1, .string s1, .slice a1' m1 c1, .int .i64 p1] 24)
      have HA := Lib.hid (At.new w7 24 #[.int .i64 k1, .int .i64 n1, .string s1, .slice a1' m1 c1, .int .i64 p1])
      have HTY := Lib.hid (hty.still ((Foot.refl (fun _ => False) w7).alloc (.cells #[.int .i64 k1, .int .i64 n1, .string s1, .slice a1' m1 c1, .int .i64 p1] 24)))
      clear hf0 hty RC
      have HF := Lib.hid (HF.out.trans hf fun _ _ h => h)
      have HE := Lib.hid (HE.out.keep hf id)
      have HT := Lib.hid (HT.out.still hf)
      clear hf
      obtain ⟨b0, b1, b2, b3, b4⟩ := cells5 HE.out
      go_wp2_with fail
      clear b0 b1 b2 b3 b4
      generalize hg8 : w7.heap.size = g8 at *
      generalize w7.alloc (.cells #[.int .i64 k1, .int .i64 n1, .string s1, .slice a1' m1 c1, .int .i64 p1] 24) = W8 at *
      clear hg8
      refine (PX _ _ (HV.out.keep HF.out) HT.out).mono ?_
      rintro e w9 ⟨rfl, hf⟩
      have HF := Lib.hid (HF.out.trans hf fun _ _ h => h)
      have HE := Lib.hid (HE.out.keep hf id)
      have HT := Lib.hid (HT.out.still hf)
      have HA := Lib.hid (HA.out.keep hf id)
      have HTY := Lib.hid (HTY.out.still hf)
      clear hf
      go_wp2_with fail
      refine (RD _ (HV.out.keep HF.out)).mono ?_
      rintro e w10 ⟨k2, n2, s2, a2, m2, c2, p2, rfl, hty, hf0⟩
      obtain ⟨y0, yp, y1, pp, qq, rfl, hyp⟩ := har
      obtain ⟨a2', c2', hv, hk2, _⟩ := hty.kids
      simp only [Value.agg.injEq, Array.mk.injEq, List.cons.injEq, and_true, Value.int.injEq, Value.string.injEq, Value.slice.injEq, true_and, List.length_cons, List.length_nil] at hv
      obtain ⟨rfl, rfl, rfl, ⟨rfl, rfl, rfl⟩, rfl⟩ := hv
      have hf := hf0.alloc (.cells #[.int .i64 10, .int .i64 0, .string (mk []), .slice a2 2 c2, .int .i64 p2] 24)
      have HB := Lib.hid (At.new w10 24 #[.int .i64 10, .int .i64 0, .string (mk []), .slice a2 2 c2, .int .i64 p2])
      have hk2 := hk2.keep ((Foot.refl (fun _ => False) w10).alloc (.cells #[.int .i64 10, .int .i64 0, .string (mk []), .slice a2 2 c2, .int .i64 p2] 24))
      have HYP := Lib.hid hyp.symm.sameB
      clear hf0 hty RD hyp
      have HF := Lib.hid (HF.out.trans hf fun _ _ h => h)
      have HE := Lib.hid (HE.out.keep hf id)
      have HT := Lib.hid (HT.out.still hf)
      have HA := Lib.hid (HA.out.keep hf id)
      have HTY := Lib.hid (HTY.out.still hf)
      clear hf
      go_wp2_with fail
      generalize hg10 : w10.heap.size = g10 at *
      generalize w10.alloc (.cells #[.int .i64 10, .int .i64 0, .string (mk []), .slice a2 2 c2, .int .i64 p2] 24) = W11 at *
      clear hg10
      obtain ⟨g1, o1, u0, u1, u2, u3, u4, rfl, ⟨_, _, _, d3, _⟩, htm⟩ := hk2.at_ 1 _ rfl
      obtain ⟨a3, c3', hv, hk3, _⟩ := htm.kids
      simp only [Value.agg.injEq, Array.mk.injEq, List.cons.injEq, and_true, List.length_cons, List.length_nil] at hv
      obtain ⟨rfl, rfl, rfl, rfl, rfl⟩ := hv
      obtain ⟨g3, o3, v0, v1, v2, v3, v4, rfl, ⟨f0, f1, f2, f3, f4⟩, htp⟩ := hk3.at_ 0 _ rfl
      obtain ⟨k3, n3, s3, a5, m3, c5, p3, hv⟩ := htp.five
      simp only [Value.agg.injEq, Array.mk.injEq, List.cons.injEq, and_true] at hv
      obtain ⟨rfl, rfl, rfl, rfl, rfl⟩ := hv
      have HTP := Lib.hid htp
      clear htp htm hk2 hk3
      obtain ⟨b0, b1, b2, b3, b4⟩ := cells5 HE.out
      obtain ⟨y0, y1, y2, y3, y4⟩ := cells5 HA.out
      have q0 : W11.cell? ⟨g10, 0, none⟩ = some (.int .i64 10) := HB.out.cell 0
      have q3 : W11.cell? ⟨g10, 3, none⟩ = some (.slice (some ⟨g1, o1, none⟩) 2 c2) := HB.out.cell 3
      simp only [Nat.one_mul, Nat.zero_mul, Nat.add_zero] at d3 f0 f1 f2 f3 f4
      have SM1 : ∀ W, Hid (Foot (fun _ => False) W11 W) → Calls Tryd.prog 16 #[.agg #[.int .i64 k1, .int .i64 n1, .string s1, .slice a1' m1 c1, .int .i64 p1], .agg #[.int .i64 k, .int .i64 n, .string s, .slice a m c, .int .i64 p]] W fun e w' => e = .returned (.bool true) ∧ Foot (fun _ => False) W w' := fun W hW => by
        have h := xsame_c _ _ _ _ _ _ W (HTY.out.still hW.out) (HT.out.still hW.out)
        rwa [HSM.out] at h
      have SM2 : ∀ W, Hid (Foot (fun _ => False) W11 W) → Calls Tryd.prog 16 #[.agg #[.int .i64 k3, .int .i64 n3, .string s3, .slice a5 m3 c5, .int .i64 p3], .agg #[.int .i64 k, .int .i64 n, .string s, .slice a m c, .int .i64 p]] W fun e w' => e = .returned (.bool true) ∧ Foot (fun _ => False) W w' := fun W hW => by
        have h := xsame_c _ _ _ _ _ _ W (HTP.out.still hW.out) (HT.out.still hW.out)
        rwa [HYP.out] at h
      have KN : ∀ W, Hid (Foot (fun _ => False) W11 W) → Calls Tryd.prog 10 #[] W fun e w' => e = .returned (.bool true) ∧ Foot (fun _ => False) W w' := fun W hW => known_c W (HV.out.keep (HF.out.trans hW.out fun _ _ h => h))
      have KEEP : ∀ w' : World, Hid (Foot (fun _ => False) W11 w') → (w'.cell? ⟨g4, 0, none⟩ = some (.int .i64 k) ∧ w'.cell? ⟨g4, 1, none⟩ = some (.int .i64 n) ∧ w'.cell? ⟨g4, 2, none⟩ = some (.string s) ∧ w'.cell? ⟨g4, 3, none⟩ = some (.slice a m c) ∧ w'.cell? ⟨g4, 4, none⟩ = some (.int .i64 p) ∧ w'.cell? ⟨g8, 0, none⟩ = some (.int .i64 k1) ∧ w'.cell? ⟨g8, 1, none⟩ = some (.int .i64 n1) ∧ w'.cell? ⟨g8, 2, none⟩ = some (.string s1) ∧ w'.cell? ⟨g8, 3, none⟩ = some (.slice a1' m1 c1) ∧ w'.cell? ⟨g8, 4, none⟩ = some (.int .i64 p1) ∧ w'.cell? ⟨g10, 0, none⟩ = some (.int .i64 10) ∧ w'.cell? ⟨g10, 3, none⟩ = some (.slice (some ⟨g1, o1, none⟩) 2 c2) ∧ w'.cell? ⟨g1, o1 + 5 + 3, none⟩ = some (.slice (some ⟨g3, o3, none⟩) 2 c3') ∧ w'.cell? ⟨g3, o3, none⟩ = some (.int .i64 k3) ∧ w'.cell? ⟨g3, o3 + 1, none⟩ = some (.int .i64 n3) ∧ w'.cell? ⟨g3, o3 + 2, none⟩ = some (.string s3) ∧ w'.cell? ⟨g3, o3 + 3, none⟩ = some (.slice a5 m3 c5) ∧ w'.cell? ⟨g3, o3 + 4, none⟩ = some (.int .i64 p3) ∧ Hid (Foot (fun _ => False) W11 w')) := fun w' h => ⟨hold h.out b0, hold h.out b1, hold h.out b2, hold h.out b3, hold h.out b4, hold h.out y0, hold h.out y1, hold h.out y2, hold h.out y3, hold h.out y4, hold h.out q0, hold h.out q3, hold h.out d3, hold h.out f0, hold h.out f1, hold h.out f2, hold h.out f3, hold h.out f4, h⟩
      have HW : Hid (Foot (fun _ => False) W11 W11.drew) := Lib.hid (Foot.refl (fun _ => False) W11).drew
      go_region_held3 (fun w' => w'.cell? ⟨g4, 0, none⟩ = some (.int .i64 k) ∧ w'.cell? ⟨g4, 1, none⟩ = some (.int .i64 n) ∧ w'.cell? ⟨g4, 2, none⟩ = some (.string s) ∧ w'.cell? ⟨g4, 3, none⟩ = some (.slice a m c) ∧ w'.cell? ⟨g4, 4, none⟩ = some (.int .i64 p) ∧ w'.cell? ⟨g8, 0, none⟩ = some (.int .i64 k1) ∧ w'.cell? ⟨g8, 1, none⟩ = some (.int .i64 n1) ∧ w'.cell? ⟨g8, 2, none⟩ = some (.string s1) ∧ w'.cell? ⟨g8, 3, none⟩ = some (.slice a1' m1 c1) ∧ w'.cell? ⟨g8, 4, none⟩ = some (.int .i64 p1) ∧ w'.cell? ⟨g10, 0, none⟩ = some (.int .i64 10) ∧ w'.cell? ⟨g10, 3, none⟩ = some (.slice (some ⟨g1, o1, none⟩) 2 c2) ∧ w'.cell? ⟨g1, o1 + 5 + 3, none⟩ = some (.slice (some ⟨g3, o3, none⟩) 2 c3') ∧ w'.cell? ⟨g3, o3, none⟩ = some (.int .i64 k3) ∧ w'.cell? ⟨g3, o3 + 1, none⟩ = some (.int .i64 n3) ∧ w'.cell? ⟨g3, o3 + 2, none⟩ = some (.string s3) ∧ w'.cell? ⟨g3, o3 + 3, none⟩ = some (.slice a5 m3 c5) ∧ w'.cell? ⟨g3, o3 + 4, none⟩ = some (.int .i64 p3) ∧ Hid (Foot (fun _ => False) W11 w'))
        (exact KEEP _ (by assumption))
        (first
          | (go_at_call 16; (first | (with_reducible refine (SM1 _ (by assumption)).mono ?_) | (with_reducible refine (SM2 _ (by assumption)).mono ?_)); rintro e wk ⟨rfl, hFk⟩; have Ek := holdF hFk (by assumption : Hid (Foot (fun _ => False) W11 _)))
          | (go_at_call 10; (with_reducible refine (KN _ (by assumption)).mono ?_); rintro e wk ⟨rfl, hFk⟩; have Ek := holdF hFk (by assumption : Hid (Foot (fun _ => False) W11 _))))
      go_wp2_with fail
      go_ret
      exact ⟨rfl, (HF.out.trans Ek.out fun _ _ h => h).below (fun _ _ h => h.elim) (Nat.le_refl _)⟩

set_option maxRecDepth 100000 in
theorem lifted (os : Os) (started : os.Started) (H : Type) (enc : TypeId × Value → H) :
    ReturnsInHanded {} Tryd.checked os 5 .any (fun w args => (Rows.exprBracketsSpec.pre enc Tryd.prog Tryd.f5 [] false w args ∧ laidMetH Tryd.prog listed w) ∧ sizedMet enc Tryd.prog Tryd.f5 (OpenSpec.ofChange Rows.exprBracketsSpec) false w args) (Rows.exprBracketsSpec.post enc Tryd.prog Tryd.f5 false true false false) := by
  refine returnsInHanded_of_change_and (C := Tryd.checked) (X := fun w _ => laidMetH Tryd.prog listed w) (fun _ _ _ hh h => h.of_heap hh) own started (by kernel_rfl) Tryd.func5
    (ChangeSpec.witness_shaped (enc := enc) (C := Tryd.checked) (os := os) (X := fun w _ => laidMetH Tryd.prog listed w) false (World.doorLaid Tryd.prog 400 os) #[.slice none 0 0, .int .u8 0] 8 rfl (World.shaped_of_RefB (by kernel_rfl) (by kernel_rfl)) (by kernel_rfl) (by kernel_rfl) (by kernel_rfl) (door_met os _)) ?_
  intro W base args ds gs before hval0 hW _ _ hL _
  have tab := of_laid hL
  have hval : ∀ (j : Nat) t v, Tryd.f5.params[j]? = some t → args[j]? = some v → Value.okWide Tryd.prog W .any base t v := hval0
  have hW' := hW
  obtain ⟨p, q, hA0, hV, rfl, hfz, hnd⟩ := hW
  have hA : DataW.TrodAll enc Tryd.prog W 0 (fun _ => true) true Tryd.f5.params.toList args.toList ds p := hA0
  rw [Tryd.params5] at hA hval
  obtain ⟨v0, vs0, d0, ds0, p0, q0, hargs, rfl, rfl, h0, r0⟩ := trodAll_cons hA
  obtain ⟨v1, vs1, d1, ds1, p1, q1, rfl, rfl, rfl, h1, r1⟩ := trodAll_cons r0
  obtain ⟨rfl, rfl, rfl⟩ := trodAll_nil r1
  obtain rfl : args = #[v0, v1] := by cases args; simp_all
  obtain ⟨rfl, rfl⟩ := trodVars_none hV
  obtain ⟨a0, len0, cap0, rfl⟩ := okWide_slice Tryd.underlying26 (hval 0 26 v0 rfl rfl)
  have k0 := h0
  have lt0 : ∀ x ∈ p0, x.block < W.heap.size := by obtain ⟨m, hm⟩ := k0; exact DataW.trod_lt m _ _ _ hm
  obtain ⟨z0, w0⟩ := openA0 h0
  obtain ⟨a1, rfl, rfl, rfl, w1⟩ := open_int Tryd.underlying5 (hval 1 5 v1 rfl rfl) h1
  clear hA0 hval0
  refine (walk a0 len0 cap0 z0 a1 W w0 w1 tab).mono fun e W' ⟨he, bel⟩ => ?_
  subst he
  exact ⟨_, rfl, _, _, _, [], _, [], hW', trodAll_mk1 (shut_bool Tryd.underlying4 _), (trodAll_cons_mk (Below.trod laidOut (by kernel_rfl) (of_decide_eq_true (by kernel_rfl)) k0 bel lt0) (trodAll_cons_mk (shut_int Tryd.underlying5 w1) trodAll_mk0)), rfl, bel.frame _, fun h => by cases h⟩

theorem over : Rows.exprBracketsRow.holds Tryd.pinned (OpenSpec.ofChange Rows.exprBracketsSpec) :=
  OpenClaim.holds_of_wide 5 Tryd.f5 rfl rfl rfl rfl rfl rfl rfl ⟨rfl, rfl, rfl, rfl, rfl⟩ rfl rfl rfl rfl rfl (by kernel_rfl) Tryd.func5 (by kernel_rfl)
    (of_decide_eq_true (by kernel_rfl)) (by unfold Func.isWrapper; first | (rw [if_pos (by decide +kernel)]; kernel_rfl) | (rw [if_neg (by decide +kernel)]; exact ⟨rfl, rfl⟩))
    (fun os started H enc _ => lifted os started H enc)

theorem proved : Rows.ExprBracketsCardSaid :=
  Claim7.holds_tied_plain_at .later [] [.data, .data, .data, .sentinel, .sentinel] true (true, "fc7dd00d74bbcc0d72db28cef0c28b802cc44da259ac316393ce6c1e49aca0bb") true
    over (fun _ h => by cases h) (by kernel_rfl) (fun _ h => by cases h) exprBrackets_row_tie rfl ⟨rfl, rfl⟩ (by kernel_rfl) rfl
    (fun f fn hf hfn => by
      obtain rfl : f = 5 := Option.some.inj ((show Tryd.prog.funcNamed Tryd.f5.name = some 5 by kernel_rfl).symm.trans hf) |>.symm
      obtain rfl : fn = Tryd.f5 := (Option.some.inj (Tryd.func5.symm.trans hfn)).symm
      exact ⟨by kernel_rfl, fun j t ht => by
        rw [Tryd.params5] at ht
        have hm : t ∈ [26, 5] := by simpa using Array.mem_of_getElem? ht
        have hall : ([26, 5].all fun u => !Tryd.prog.wantsStandIn u) = true := by kernel_rfl
        exact (show Tryd.prog.wantsStandIn t = false by simpa using List.all_eq_true.1 hall t hm)⟩)
    (by kernel_rfl)
#print axioms proved
end Go.Proofs.YtdibkgjldmepcaaDoor.exprBrackets
