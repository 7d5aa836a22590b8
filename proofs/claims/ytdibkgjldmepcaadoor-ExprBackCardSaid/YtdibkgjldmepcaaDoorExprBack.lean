/- Trees made from numbers, printed by expr.Print, are read back as the same trees; they are right and print alike again; the chapter's examples hold. No condition; the variables of strconv and math/bits are laid as their initialisers lay them (tied). -/
import Derived.Test.YtdibkgjldmepcaaDoorRows
import Derived.WalkKit
import Derived.ProofKit
import Derived.OpenShut
import Derived.ShutString
import Derived.ChangeOld
import Derived.Below
import Derived.Test.YtdibkgjldmepcaaDoorPk
import Derived.Test.YtdibkgjldmepcaaDoorPn
import Derived.Test.YtdibkgjldmepcaaDoorCards
import Derived.Test.YtdibkgjldmepcaaDoorTie
import Derived.Test.YtdibkgjldmepcaaDoorTabL
import Derived.SevenTiedAt
import Derived.LaidMore
import Derived.Stop.Joined
namespace Go.Proofs.YtdibkgjldmepcaaDoor.exprBack
open Go.ChangeShapes Go.WideShapes Go.ChangeAt Go.RowKit
open Go.ChangeMaps (open_string shut_string)
set_option linter.unusedVariables false
set_option linter.unusedSimpArgs false

open Go.Proofs.YtdibkgjldmepcaaDoor.Lex (listed door_met of_laid)
theorem own : ownKnob Tryd.prog.godebug = none := by kernel_rfl
theorem laidOut : laidOutB Tryd.prog = true := by kernel_rfl
open Mem Lex Gen Xp

theorem openA0 {H : Type} {enc : TypeId × Value → H} {w : World} {a : Option Addr} {len cap : Nat} {d : DataW H} {p : List MemPlace} (h : DataW.Trod enc Tryd.prog w 0 (fun _ => true) true 26 (.slice a len cap) d p) : ∃ zs, IntsIn w a len cap zs :=
  open_ints_in Tryd.underlying26 Tryd.underlying3 (by kernel_rfl) h

theorem scope_laid (w : World) : Foot (fun _ => False) w (((w.alloc (.cells #[.string { data := #[120] }, .string { data := #[121, 49] }, .string { data := #[95, 122] }] 9)).alloc (.cells #[.string { data := #[105, 100, 108, 101] }, .string { data := #[119, 97, 105, 116, 105, 110, 103] }] 9)).alloc
      (.cells #[.slice (some ⟨w.heap.size, 0, none⟩) 3 3, .slice none 0 0, .slice none 0 0, .slice (some ⟨w.heap.size + 1, 0, none⟩) 2 2] 36)) ∧
    Names (((w.alloc (.cells #[.string { data := #[120] }, .string { data := #[121, 49] }, .string { data := #[95, 122] }] 9)).alloc (.cells #[.string { data := #[105, 100, 108, 101] }, .string { data := #[119, 97, 105, 116, 105, 110, 103] }] 9)).alloc
      (.cells #[.slice (some ⟨w.heap.size, 0, none⟩) 3 3, .slice none 0 0, .slice none 0 0, .slice (some ⟨w.heap.size + 1, 0, none⟩) 2 2] 36)) (fun b => b < w.heap.size + 3) (.slice (some ⟨w.heap.size, 0, none⟩) 3 3) [[120], [121, 49], [95, 122]] ∧
    Names (((w.alloc (.cells #[.string { data := #[120] }, .string { data := #[121, 49] }, .string { data := #[95, 122] }] 9)).alloc (.cells #[.string { data := #[105, 100, 108, 101] }, .string { data := #[119, 97, 105, 116, 105, 110, 103] }] 9)).alloc
      (.cells #[.slice (some ⟨w.heap.size, 0, none⟩) 3 3, .slice none 0 0, .slice none 0 0, .slice (some ⟨w.heap.size + 1, 0, none⟩) 2 2] 36)) (fun b => b < w.heap.size + 3) (.slice (some ⟨w.heap.size + 1, 0, none⟩) 2 2) [[105, 100, 108, 101], [119, 97, 105, 116, 105, 110, 103]] ∧
    At (((w.alloc (.cells #[.string { data := #[120] }, .string { data := #[121, 49] }, .string { data := #[95, 122] }] 9)).alloc (.cells #[.string { data := #[105, 100, 108, 101] }, .string { data := #[119, 97, 105, 116, 105, 110, 103] }] 9)).alloc
      (.cells #[.slice (some ⟨w.heap.size, 0, none⟩) 3 3, .slice none 0 0, .slice none 0 0, .slice (some ⟨w.heap.size + 1, 0, none⟩) 2 2] 36)) (w.heap.size + 1 + 1) 36 #[.slice (some ⟨w.heap.size, 0, none⟩) 3 3, .slice none 0 0, .slice none 0 0, .slice (some ⟨w.heap.size + 1, 0, none⟩) 2 2] := by
  have a1 := At.new w 9 #[.string { data := #[120] }, .string { data := #[121, 49] }, .string { data := #[95, 122] }]
  have f1 := (Foot.refl (fun _ => False) w).alloc (.cells #[.string { data := #[120] }, .string { data := #[121, 49] }, .string { data := #[95, 122] }] 9)
  have s1 := size_alloc w (.cells #[.string { data := #[120] }, .string { data := #[121, 49] }, .string { data := #[95, 122] }] 9)
  generalize w.alloc (.cells #[.string { data := #[120] }, .string { data := #[121, 49] }, .string { data := #[95, 122] }] 9) = w1 at *
  have a2 := At.new w1 9 #[.string { data := #[105, 100, 108, 101] }, .string { data := #[119, 97, 105, 116, 105, 110, 103] }]
  have f2 := (Foot.refl (fun _ => False) w1).alloc (.cells #[.string { data := #[105, 100, 108, 101] }, .string { data := #[119, 97, 105, 116, 105, 110, 103] }] 9)
  have s2 := size_alloc w1 (.cells #[.string { data := #[105, 100, 108, 101] }, .string { data := #[119, 97, 105, 116, 105, 110, 103] }] 9)
  generalize w1.alloc (.cells #[.string { data := #[105, 100, 108, 101] }, .string { data := #[119, 97, 105, 116, 105, 110, 103] }] 9) = w2 at *
  have a3 := At.new w2 36 #[.slice (some ⟨w.heap.size, 0, none⟩) 3 3, .slice none 0 0, .slice none 0 0, .slice (some ⟨w.heap.size + 1, 0, none⟩) 2 2]
  have f3 := (Foot.refl (fun _ => False) w2).alloc (.cells #[.slice (some ⟨w.heap.size, 0, none⟩) 3 3, .slice none 0 0, .slice none 0 0, .slice (some ⟨w.heap.size + 1, 0, none⟩) 2 2] 36)
  generalize w2.alloc (.cells #[.slice (some ⟨w.heap.size, 0, none⟩) 3 3, .slice none 0 0, .slice none 0 0, .slice (some ⟨w.heap.size + 1, 0, none⟩) 2 2] 36) = w3 at *
  have f23 := f2.trans f3 fun _ _ h => h
  refine ⟨f1.trans f23 fun _ _ h => h, ?_, ?_, by rw [s2, s1] at a3; exact a3⟩
  · exact names_laid (l := [[120], [121, 49], [95, 122]]) (a1.keep f23 id) (show w.heap.size < w.heap.size + 3 by omega) (by intro s hs; simp only [List.mem_cons, List.not_mem_nil, or_false] at hs; rcases hs with rfl | rfl | rfl <;> (unfold Ident; decide)) (by decide)
  · rw [s1] at a2
    exact names_laid (l := [[105, 100, 108, 101], [119, 97, 105, 116, 105, 110, 103]]) (a2.keep f3 id) (show w.heap.size + 1 < w.heap.size + 3 by omega) (by intro s hs; simp only [List.mem_cons, List.not_mem_nil, or_false] at hs; rcases hs with rfl | rfl <;> (unfold Ident; decide)) (by decide)

set_option maxHeartbeats 4000000 in
set_option maxRecDepth 100000 in
theorem walk (a0 : Option Addr) (len0 cap0 : Nat) (z0 : List Int) (w : World) (w0 : IntsIn w a0 len0 cap0 z0) (hT : Vars w) :
    Calls Tryd.prog 4 #[.slice a0 len0 cap0] w fun e w' => e = .returned (.bool true) ∧ Below w.heap.size w w' := by
  have HV := Lib.hid hT
  have W0 := Lib.hid w0
  clear w0 hT
  by_cases hl : len0 ≤ 200
  case neg =>
    have hl2 : (200 : Int) < len0 := by omega
    clear hl
    go_enter Tryd.func4, Tryd.ntmps4
    go_wp2_with fail
    refine (known_c _ HV.out).mono ?_
    rintro e w1 ⟨rfl, hf⟩
    have HF := Lib.hid hf
    clear hf
    go_wp2_with fail
    go_ret
    exact ⟨rfl, HF.out.below (fun _ _ h => h.elim) (Nat.le_refl _)⟩
  have hl2 : ¬ (200 : Int) < len0 := by omega
  obtain ⟨F3, N0, N3, A3⟩ := scope_laid w
  have HF3 := Lib.hid F3
  have HN0 := Lib.hid N0
  have HN3 := Lib.hid N3
  clear F3 N0 N3
  go_enter Tryd.func4, Tryd.ntmps4
  go_upto_region 4 with fail
  generalize hW3 : ((w.alloc (.cells #[.string { data := #[120] }, .string { data := #[121, 49] }, .string { data := #[95, 122] }] 9)).alloc (.cells #[.string { data := #[105, 100, 108, 101] }, .string { data := #[119, 97, 105, 116, 105, 110, 103] }] 9)).alloc
      (.cells #[.slice (some ⟨w.heap.size, 0, none⟩) 3 3, .slice none 0 0, .slice none 0 0, .slice (some ⟨w.heap.size + 1, 0, none⟩) 2 2] 36) = W3 at *
  have hs3 : W3.heap.size = w.heap.size + 3 := by rw [← hW3]; simp
  clear hW3
  have c0 : W3.cell? ⟨w.heap.size + 1 + 1, 0, none⟩ = some (.slice (some ⟨w.heap.size, 0, none⟩) 3 3) := A3.cell 0
  have c1 : W3.cell? ⟨w.heap.size + 1 + 1, 1, none⟩ = some (.slice none 0 0) := A3.cell 1
  have c2 : W3.cell? ⟨w.heap.size + 1 + 1, 2, none⟩ = some (.slice none 0 0) := A3.cell 2
  have c3 : W3.cell? ⟨w.heap.size + 1 + 1, 3, none⟩ = some (.slice (some ⟨w.heap.size + 1, 0, none⟩) 2 2) := A3.cell 3
  have hX := (Foot.refl (fun _ => False) W3).alloc (.cells #[.slice a0 len0 cap0, .int .i64 0] 40)
  have hR : At (W3.alloc (.cells #[.slice a0 len0 cap0, .int .i64 0] 40)) (w.heap.size + 3) 40 #[.slice a0 len0 cap0, .int .i64 0] := by rw [← hs3]; exact At.new W3 _ _
  have F4 := HF3.out.trans hX fun _ _ h => h
  have hsrc := src_in W0.out F4 (by omega) (w.heap.size + 3) hR (by omega)
  have MC := made_c (w.heap.size + 3) (fun b => b < w.heap.size + 3) (Nat.lt_irrefl _) _ _ _ _ _ [] [] _ 6 (by decide) _ hsrc (HN0.out.keep hX fun _ h => h.elim) names_none names_none (HN3.out.keep hX fun _ h => h.elim)
  have hsz4 := size_alloc W3 (.cells #[.slice a0 len0 cap0, .int .i64 0] 40)
  have HF4 := Lib.hid F4
  clear A3 hX hR F4 hsrc HN0 HN3 HF3 W0
  go_wp2_with fail
  generalize W3.alloc (.cells #[.slice a0 len0 cap0, .int .i64 0] 40) = W4 at *
  refine MC.mono ?_
  rintro e w4 ⟨x, k, n, s, a, m, c, p, rfl, hok, hnest, hsize, htr, hpr, hf⟩
  clear MC c0 c1 c2 c3
  have hf5 := (HF4.out.trans hf fun b hb (h : b = w.heap.size + 3) => by omega).alloc (.cells #[.int .i64 k, .int .i64 n, .string s, .slice a m c, .int .i64 p] 24)
  have hx5 := (Foot.refl (fun _ => False) w4).alloc (.cells #[.int .i64 k, .int .i64 n, .string s, .slice a m c, .int .i64 p] 24)
  have HE := Lib.hid (At.new w4 24 #[.int .i64 k, .int .i64 n, .string s, .slice a m c, .int .i64 p])
  have HT := Lib.hid (htr.still hx5)
  have HPR := Lib.hid (fun W (hW : Foot (fun _ => False) (w4.alloc (.cells #[.int .i64 k, .int .i64 n, .string s, .slice a m c, .int .i64 p] 24)) W) => hpr W (hx5.trans hW fun _ _ h => h))
  have HF5 := Lib.hid hf5
  have HOK := Lib.hid hok
  have hn12 : nestX x ≤ 12 := hnest
  have hz127 : sizeX x ≤ 127 := hsize
  have htl := hok.textlen
  clear hf5 hx5 hf htr hpr hnest hsize hok HF4
  obtain ⟨tx, y, hsm, hout, hparse⟩ := read_back HOK.out hn12 (by omega)
  obtain ⟨oky, ety, eny, ezy⟩ := HOK.out.sm hsm
  have HSM := Lib.hid hsm.symm.sameB
  have HOY := Lib.hid oky
  have RC := fun W hW => read_c (mk (textX x)) (by rw [mk_size]; omega) _ y _ W hW (by rw [bs_mk]; exact hout) hparse
  have PX := fun P W hW hT => xprint_c HOK.out P (.agg #[.int .i64 k, .int .i64 n, .string s, .slice a m c, .int .i64 p]) W hW hT (by omega)
  have PY := fun P v W hW hT => xprint_c HOY.out P v W hW hT (by omega)
  rw [ety] at PY
  have GX := fun P W hW hT hP => right_c HOK.out.rng P (.agg #[.int .i64 k, .int .i64 n, .string s, .slice a m c, .int .i64 p]) W hW hT hP (by rw [nodes_ok HOK.out]; omega)
  have GY := fun P v W hW hT hP => right_c HOY.out.rng P v W hW hT hP (by rw [nodes_ok HOY.out]; omega)
  rw [fit_all HOK.out hn12] at GX
  rw [fit_all HOY.out (by omega)] at GY
  simp only [List.length_singleton, decide_true] at RC
  generalize mk (textX x) = T at *
  clear hsm hout hparse oky ety eny ezy htl
  obtain ⟨b0, b1, b2, b3, b4⟩ := cells5 HE.out
  go_wp2_with fail
  generalize hg4 : w4.heap.size = g4 at *
  generalize w4.alloc (.cells #[.int .i64 k, .int .i64 n, .string s, .slice a m c, .int .i64 p] 24) = W5 at *
  clear b0 b1 b2 b3 b4 hg4
  have HG := Lib.hid (Foot.refl (fun _ => False) W5)
  have HF := HF5
  clear HF5
  refine (PX _ _ (HV.out.keep HF.out) HT.out).mono ?_
  rintro e w6 ⟨rfl, hf⟩
  have HF := Lib.hid (HF.out.trans hf fun _ _ h => h)
  have HG := Lib.hid (HG.out.trans hf fun _ _ h => h)
  have HE := Lib.hid (HE.out.keep hf id)
  have HT := Lib.hid (HT.out.still hf)
  clear hf
  go_wp2_with fail
  refine (RC _ (HV.out.keep HF.out)).mono ?_
  rintro e w7 ⟨k', n', s', a', m', c', p', rfl, hty, hf0⟩
  have hf := hf0.alloc (.cells #[.int .i64 k', .int .i64 n', .string s', .slice a' m' c', .int .i64 p'] 24)
  have HA := Lib.hid (At.new w7 24 #[.int .i64 k', .int .i64 n', .string s', .slice a' m' c', .int .i64 p'])
  have HTY := Lib.hid (hty.still ((Foot.refl (fun _ => False) w7).alloc (.cells #[.int .i64 k', .int .i64 n', .string s', .slice a' m' c', .int .i64 p'] 24)))
  clear hf0 hty RC
  have HF := Lib.hid (HF.out.trans hf fun _ _ h => h)
  have HG := Lib.hid (HG.out.trans hf fun _ _ h => h)
  have HE := Lib.hid (HE.out.keep hf id)
  have HT := Lib.hid (HT.out.still hf)
  clear hf
  obtain ⟨b0, b1, b2, b3, b4⟩ := cells5 HE.out
  obtain ⟨y0, y1, y2, y3, y4⟩ := cells5 HA.out
  go_wp2_with fail
  clear b0 b1 b2 b3 b4 y0 y1 y2 y3 y4
  generalize hg8 : w7.heap.size = g8 at *
  generalize w7.alloc (.cells #[.int .i64 k', .int .i64 n', .string s', .slice a' m' c', .int .i64 p'] 24) = W8 at *
  clear hg8
  refine (HPR.out _ HG.out).mono ?_
  rintro e w9 ⟨rfl, hf⟩
  have HF := Lib.hid (HF.out.trans hf fun _ _ h => h)
  have HG := Lib.hid (HG.out.trans hf fun _ _ h => h)
  have HE := Lib.hid (HE.out.keep hf id)
  have HT := Lib.hid (HT.out.still hf)
  have HA := Lib.hid (HA.out.keep hf id)
  have HTY := Lib.hid (HTY.out.still hf)
  clear hf
  obtain ⟨b0, b1, b2, b3, b4⟩ := cells5 HE.out
  obtain ⟨y0, y1, y2, y3, y4⟩ := cells5 HA.out
  go_wp2_with fail
  clear b0 b1 b2 b3 b4 y0 y1 y2 y3 y4
  refine (GX (fun k => k < w9.heap.size) _ (HV.out.keep HF.out) (HT.out.weak fun _ h _ => h) fun _ h => h).mono ?_
  rintro e w10 ⟨rfl, hf⟩
  have HF := Lib.hid (HF.out.trans hf fun _ _ h => h)
  have HG := Lib.hid (HG.out.trans hf fun _ _ h => h)
  have HE := Lib.hid (HE.out.keep hf id)
  have HT := Lib.hid (HT.out.still hf)
  have HA := Lib.hid (HA.out.keep hf id)
  have HTY := Lib.hid (HTY.out.still hf)
  clear hf
  obtain ⟨b0, b1, b2, b3, b4⟩ := cells5 HE.out
  obtain ⟨y0, y1, y2, y3, y4⟩ := cells5 HA.out
  go_wp2_with fail
  clear b0 b1 b2 b3 b4 y0 y1 y2 y3 y4
  refine (xsame_c _ _ _ _ _ _ _ HTY.out HT.out).mono ?_
  rintro e w11 ⟨rfl, hf⟩
  rw [HSM.out]
  have HF := Lib.hid (HF.out.trans hf fun _ _ h => h)
  have HG := Lib.hid (HG.out.trans hf fun _ _ h => h)
  have HE := Lib.hid (HE.out.keep hf id)
  have HT := Lib.hid (HT.out.still hf)
  have HA := Lib.hid (HA.out.keep hf id)
  have HTY := Lib.hid (HTY.out.still hf)
  clear hf
  obtain ⟨b0, b1, b2, b3, b4⟩ := cells5 HE.out
  obtain ⟨y0, y1, y2, y3, y4⟩ := cells5 HA.out
  go_wp2_with fail
  clear b0 b1 b2 b3 b4 y0 y1 y2 y3 y4
  refine (GY (fun k => k < w11.heap.size) _ _ (HV.out.keep HF.out) (HTY.out.weak fun _ h _ => h) fun _ h => h).mono ?_
  rintro e w12 ⟨rfl, hf⟩
  have HF := Lib.hid (HF.out.trans hf fun _ _ h => h)
  have HG := Lib.hid (HG.out.trans hf fun _ _ h => h)
  have HE := Lib.hid (HE.out.keep hf id)
  have HT := Lib.hid (HT.out.still hf)
  have HA := Lib.hid (HA.out.keep hf id)
  have HTY := Lib.hid (HTY.out.still hf)
  clear hf
  obtain ⟨b0, b1, b2, b3, b4⟩ := cells5 HE.out
  obtain ⟨y0, y1, y2, y3, y4⟩ := cells5 HA.out
  go_wp2_with fail
  clear b0 b1 b2 b3 b4 y0 y1 y2 y3 y4
  refine (PY _ _ _ (HV.out.keep HF.out) HTY.out).mono ?_
  rintro e w13 ⟨rfl, hf⟩
  have HF := Lib.hid (HF.out.trans hf fun _ _ h => h)
  have HG := Lib.hid (HG.out.trans hf fun _ _ h => h)
  have HE := Lib.hid (HE.out.keep hf id)
  have HT := Lib.hid (HT.out.still hf)
  have HA := Lib.hid (HA.out.keep hf id)
  have HTY := Lib.hid (HTY.out.still hf)
  clear hf
  obtain ⟨b0, b1, b2, b3, b4⟩ := cells5 HE.out
  obtain ⟨y0, y1, y2, y3, y4⟩ := cells5 HA.out
  go_wp2_with fail
  clear b0 b1 b2 b3 b4 y0 y1 y2 y3 y4
  refine (known_c _ (HV.out.keep HF.out)).mono ?_
  rintro e w14 ⟨rfl, hf⟩
  have HF := Lib.hid (HF.out.trans hf fun _ _ h => h)
  clear hf
  go_wp2_with fail
  go_ret
  exact ⟨rfl, HF.out.below (fun _ _ h => h.elim) (Nat.le_refl _)⟩

set_option maxRecDepth 100000 in
theorem lifted (os : Os) (started : os.Started) (H : Type) (enc : TypeId × Value → H) :
    ReturnsInHanded {} Tryd.checked os 4 .any (fun w args => (Rows.exprBackSpec.pre enc Tryd.prog Tryd.f4 [] false w args ∧ laidMetH Tryd.prog listed w) ∧ sizedMet enc Tryd.prog Tryd.f4 (OpenSpec.ofChange Rows.exprBackSpec) false w args) (Rows.exprBackSpec.post enc Tryd.prog Tryd.f4 false true false false) := by
  refine returnsInHanded_of_change_and (C := Tryd.checked) (X := fun w _ => laidMetH Tryd.prog listed w) (fun _ _ _ hh h => h.of_heap hh) own started (by kernel_rfl) Tryd.func4
    (ChangeSpec.witness_shaped (enc := enc) (C := Tryd.checked) (os := os) (X := fun w _ => laidMetH Tryd.prog listed w) false (World.doorLaid Tryd.prog 400 os) #[.slice none 0 0] 8 rfl (World.shaped_of_RefB (by kernel_rfl) (by kernel_rfl)) (by kernel_rfl) (by kernel_rfl) (by kernel_rfl) (door_met os _)) ?_
  intro W base args ds gs before hval0 hW _ _ hL _
  have tab := of_laid hL
  have hval : ∀ (j : Nat) t v, Tryd.f4.params[j]? = some t → args[j]? = some v → Value.okWide Tryd.prog W .any base t v := hval0
  have hW' := hW
  obtain ⟨p, q, hA0, hV, rfl, hfz, hnd⟩ := hW
  have hA : DataW.TrodAll enc Tryd.prog W 0 (fun _ => true) true Tryd.f4.params.toList args.toList ds p := hA0
  rw [Tryd.params4] at hA hval
  obtain ⟨v0, vs0, d0, ds0, p0, q0, hargs, rfl, rfl, h0, r0⟩ := trodAll_cons hA
  obtain ⟨rfl, rfl, rfl⟩ := trodAll_nil r0
  obtain rfl : args = #[v0] := by cases args; simp_all
  obtain ⟨rfl, rfl⟩ := trodVars_none hV
  obtain ⟨a0, len0, cap0, rfl⟩ := okWide_slice Tryd.underlying26 (hval 0 26 v0 rfl rfl)
  have k0 := h0
  have lt0 : ∀ x ∈ p0, x.block < W.heap.size := by obtain ⟨m, hm⟩ := k0; exact DataW.trod_lt m _ _ _ hm
  obtain ⟨z0, w0⟩ := openA0 h0
  clear hA0 hval0
  refine (walk a0 len0 cap0 z0 W w0 tab).mono fun e W' ⟨he, bel⟩ => ?_
  subst he
  exact ⟨_, rfl, _, _, _, [], _, [], hW', trodAll_mk1 (shut_bool Tryd.underlying4 _), (trodAll_cons_mk (Below.trod laidOut (by kernel_rfl) (of_decide_eq_true (by kernel_rfl)) k0 bel lt0) trodAll_mk0), rfl, bel.frame _, fun h => by cases h⟩

theorem over : Rows.exprBackRow.holds Tryd.pinned (OpenSpec.ofChange Rows.exprBackSpec) :=
  OpenClaim.holds_of_wide 4 Tryd.f4 rfl rfl rfl rfl rfl rfl rfl ⟨rfl, rfl, rfl, rfl, rfl⟩ rfl rfl rfl rfl rfl (by kernel_rfl) Tryd.func4 (by kernel_rfl)
    (of_decide_eq_true (by kernel_rfl)) (by unfold Func.isWrapper; first | (rw [if_pos (by decide +kernel)]; kernel_rfl) | (rw [if_neg (by decide +kernel)]; exact ⟨rfl, rfl⟩))
    (fun os started H enc _ => lifted os started H enc)

theorem proved : Rows.ExprBackCardSaid :=
  Claim7.holds_tied_plain_at .later [] [.data, .data, .data, .sentinel, .sentinel] true (true, "fc7dd00d74bbcc0d72db28cef0c28b802cc44da259ac316393ce6c1e49aca0bb") true
    over (fun _ h => by cases h) (by kernel_rfl) (fun _ h => by cases h) exprBack_row_tie rfl ⟨rfl, rfl⟩ (by kernel_rfl) rfl
    (fun f fn hf hfn => by
      obtain rfl : f = 4 := Option.some.inj ((show Tryd.prog.funcNamed Tryd.f4.name = some 4 by kernel_rfl).symm.trans hf) |>.symm
      obtain rfl : fn = Tryd.f4 := (Option.some.inj (Tryd.func4.symm.trans hfn)).symm
      exact ⟨by kernel_rfl, fun j t ht => by
        rw [Tryd.params4] at ht
        have hm : t ∈ [26] := by simpa using Array.mem_of_getElem? ht
        have hall : ([26].all fun u => !Tryd.prog.wantsStandIn u) = true := by kernel_rfl
        exact (show Tryd.prog.wantsStandIn t = false by simpa using List.all_eq_true.1 hall t hm)⟩)
    (by kernel_rfl)
#print axioms proved
end Go.Proofs.YtdibkgjldmepcaaDoor.exprBack
