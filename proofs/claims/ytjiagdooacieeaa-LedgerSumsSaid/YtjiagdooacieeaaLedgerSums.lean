/- What is free and what is taken are together the capacity, of each channel, after every step, and neither is below 0; the chapter's example holds. No condition. -/
import Derived.Test.YtjiagdooacieeaaRows
import Derived.WalkKit
import Derived.ProofKit
import Derived.OpenShut
import Derived.ShutString
import Derived.ChangeOld
import Derived.Below
import Derived.Test.YtjiagdooacieeaaPair4
import Derived.Deep.QuietTactic
import Derived.BigQuiet
import Derived.Deep.RegionWith
namespace Go.Proofs.Ytjiagdooacieeaa.ledgerSums
open Go.ChangeShapes Go.WideShapes Go.ChangeAt Go.RowKit
open Go.ChangeMaps (open_string shut_string)
set_option linter.unusedVariables false
set_option linter.unusedSimpArgs false

theorem own : ownKnob Try.prog.godebug = none := by kernel_rfl
theorem laidOut : laidOutB Try.prog = true := by kernel_rfl
open Led Mem

/-- The small numbers that came in. -/
structure SmallsIn (w : World) (a : Option Addr) (len cap : Nat) (F : Nat → Int) : Prop where
  le : len ≤ cap
  max : cap ≤ maxLen
  cells : 0 < len → ∃ b off, a = some ⟨b, off, none⟩ ∧ ∀ i, i < len → w.cell? ⟨b, off + i, none⟩ = some (.int .u8 (F i)) ∧ 0 ≤ F i ∧ F i ≤ 255
theorem wf_u8 {z : Int} (h : (Lit.int .u8 z).wf = true) : 0 ≤ z ∧ z ≤ 255 := by
  simp [Lit.wf, IntKind.min, IntKind.max, IntKind.bits, IntKind.signed] at h
  omega
theorem openA0 {H : Type} {enc : TypeId × Value → H} {w : World} {a : Option Addr} {len cap : Nat} {d : DataW H} {p : List MemPlace} (h : DataW.Trod enc Try.prog w 0 (fun _ => true) true 40 (.slice a len cap) d p) : ∃ F, SmallsIn w a len cap F := by
  have hone : Try.prog.cellsOf 5 = 1 := by kernel_rfl
  obtain ⟨h1, h2, h3⟩ := open_elems Try.underlying40 (by rw [hone]; decide) h
  by_cases hn : len = 0
  · exact ⟨fun _ => 0, h1, h2, fun h => absurd h (by omega)⟩
  · obtain ⟨b, off, rfl, hi⟩ := h3 (by omega)
    have : ∀ i, i < len → ∃ z : Int, w.cell? ⟨b, off + i, none⟩ = some (.int .u8 z) ∧ 0 ≤ z ∧ z ≤ 255 := by
      intro i hil
      obtain ⟨cs, n, y, hcl, hat, htr⟩ := hi i (by omega)
      obtain ⟨z, e1, _, e2⟩ := DataW.trod_int Try.underlying5 htr
      have h0 := hat 0 (by rw [hone]; decide)
      subst e1
      rw [hone] at h0
      exact ⟨z, by simpa using h0, wf_u8 e2⟩
    obtain ⟨F, hF⟩ := Go.Deep.choose_lt this
    exact ⟨F, h1, h2, fun _ => ⟨b, off, rfl, hF⟩⟩
theorem openA1 {H : Type} {enc : TypeId × Value → H} {w : World} {a : Option Addr} {len cap : Nat} {d : DataW H} {p : List MemPlace} (h : DataW.Trod enc Try.prog w 0 (fun _ => true) true 23 (.slice a len cap) d p) : ∃ F, MovesIn w a len cap F := openSteps h
theorem info_int : (Try.prog.info? 3).map (fun i => (i.zero, i.size, i.bytes)) = some (some (.int .i64 0), 1, 8) := by kernel_rfl

/-- The law's own list of capacities. -/
structure Own (W w : World) (a : Option Addr) (n c : Nat) (zs : List Int) : Prop where
  items : Items w 3 1 (.slice a n c) n (zs.map (Value.int .i64))
  own : ∀ k, (Value.slice a n c).ownBlock = some k → W.heap.size ≤ k
  foot : Foot (fun _ => False) W w
theorem Own.len {W w : World} {a : Option Addr} {n c : Nat} {zs : List Int} (h : Own W w a n c zs) : zs.length = n := by have := h.items.1; simpa using this
theorem Own.snoc {W w w2 : World} {a a' : Option Addr} {n c c' : Nat} {zs : List Int} {z : Int} (h : Own W w a n c zs) (o : Obj)
    (hI : Items w2 3 1 (.slice a' (n + 1) c') (n + 1) (zs.map (Value.int .i64) ++ [.int .i64 z])) (hF : Foot (fun k => (Value.slice a n c).ownBlock = some k) (w.alloc o) w2) (hM : Moved (w.alloc o) (.slice a n c) (.slice a' (n + 1) c')) :
    Own W w2 a' (n + 1) c' (zs ++ [z]) := by
  refine ⟨by rw [List.map_append]; exact hI, fun g hg => ?_, (h.foot.alloc o).trans hF fun k hk hk2 => absurd (h.own k hk2) (by omega)⟩
  rcases hM g hg with h1 | h1
  · exact h.own g h1
  · have := h.foot.size
    simp at h1
    omega
theorem caps_snoc {zs : List Int} {n : Nat} (hl : zs.length = n) (h : CapsOk zs n) {x : Int} (hx : 1 ≤ x ∧ x ≤ 32) : CapsOk (zs ++ [x]) (n + 1) := fun i hi => by
  by_cases e : i = n
  · subst e; subst hl; simpa [List.getD] using hx
  · have hi' : i < zs.length := by omega
    have : (zs ++ [x]).getD i 0 = zs.getD i 0 := by simp [List.getD, List.getElem?_append_left hi']
    rw [this]; exact h i (by omega)

/-- The Ledger beside the list of its capacities. -/
structure Side (W w : World) (p g n : Nat) (a : Option Addr) (c : Nat) (zs : List Int) (H : Nat → Int) : Prop where
  mine : Mine W w p g n (capsOf zs n) H
  items : Items w 3 1 (.slice a n c) n (zs.map (Value.int .i64))
  apart : ∀ k, (Value.slice a n c).ownBlock = some k → k ≠ g
section
variable {W w w' : World} {p g n c : Nat} {a : Option Addr} {zs : List Int} {H H' : Nat → Int}
theorem Side.still (h : Side W w p g n a c zs H) (hf : Foot (fun _ => False) w w') : Side W w' p g n a c zs H := ⟨h.mine.still hf, h.items.keep hf fun _ _ => id, h.apart⟩
theorem Side.step (h : Side W w p g n a c zs H) (hl : LedAt w' p g n (capsOf zs n) H') (hf : Foot (fun k => k = g) w w') : Side W w' p g n a c zs H' := ⟨h.mine.step hl hf, h.items.keep hf h.apart, h.apart⟩
theorem Side.of_new (h : Own W w a n c zs) (hl : LedAt w' (w.heap.size + 1) w.heap.size n (capsOf zs n) H) (hf : Foot (fun _ => False) w w') : Side W w' (w.heap.size + 1) w.heap.size n a c zs H :=
  ⟨Mine.of_new (h.foot.below (fun _ _ h => h.elim) (Nat.le_refl _)) hl hf, h.items.keep hf fun _ _ => id, fun k hk e => absurd (h.items.lt hk) (by omega)⟩
theorem Side.reads (h : Side W w p g n a c zs H) : ReadsI w a n zs := h.items.reads
end
theorem xTake (W : World) (p g n : Nat) (a : Option Addr) (cc : Nat) (zs : List Int) (H : Nat → Int) (c : Int) (w : World) (h : Side W w p g n a cc zs H) :
    Calls Try.prog 11 #[.pointer (some ⟨p, 0, none⟩), .int .i64 c] w fun e w' => (∃ r, e = .returned (.int .i64 r)) ∧ ∃ H', Side W w' p g n a cc zs H' :=
  (Take p g n _ H c w h.mine.led).mono fun e w' ⟨h1, h2, h3⟩ => ⟨⟨_, h1⟩, _, h.step h2 h3⟩
theorem xGive (W : World) (p g n : Nat) (a : Option Addr) (cc : Nat) (zs : List Int) (H : Nat → Int) (c : Int) (w : World) (h : Side W w p g n a cc zs H) :
    Calls Try.prog 13 #[.pointer (some ⟨p, 0, none⟩), .int .i64 c] w fun e w' => (∃ r, e = .returned (.int .i64 r)) ∧ ∃ H', Side W w' p g n a cc zs H' :=
  (Give p g n _ H c w h.mine.led).mono fun e w' ⟨h1, h2, h3⟩ => ⟨⟨_, h1⟩, _, h.step h2 h3⟩

set_option maxHeartbeats 4000000 in
set_option maxRecDepth 100000 in
theorem walk (a0 : Option Addr) (len0 cap0 : Nat) (z0 : Nat → Int) (a1 : Option Addr) (len1 cap1 : Nat) (z1 : Nat → Int × Int) (w : World) (w0 : SmallsIn w a0 len0 cap0 z0) (w1 : MovesIn w a1 len1 cap1 z1) :
    Calls Try.prog 4 #[.slice a0 len0 cap0, .slice a1 len1 cap1] w fun e w' => e = .returned (.bool true) ∧ Below w.heap.size w w' := by
  have hz0 := Nat.le_trans w0.le w0.max
  have hz1 := Nat.le_trans w1.le w1.max
  unfold maxLen at hz0 hz1
  have W0 := Lib.hid w0; have W1 := Lib.hid w1
  clear w0 w1
  by_cases hl0 : 24 < len0
  · clear W0 W1
    go_enter Try.func4, Try.ntmps4
    go_wp2_with fail
    refine (known _).mono ?_
    rintro e w9 ⟨rfl, hb⟩
    have HB9 := Lib.hid hb
    clear hb
    go_wp2_with fail
    go_ret
    exact ⟨rfl, HB9.out⟩
  by_cases hl1 : 200 < len1
  · clear W0 W1
    go_enter Try.func4, Try.ntmps4
    go_wp2_with fail
    refine (known _).mono ?_
    rintro e w9 ⟨rfl, hb⟩
    have HB9 := Lib.hid hb
    clear hb
    go_wp2_with fail
    go_ret
    exact ⟨rfl, HB9.out⟩
  obtain ⟨i0, hi, hj0, hj1, hj2⟩ := info_parts info_int
  go_enter Try.func4, Try.ntmps4
  go_wp2_with fail
  go_loopw [5, 6] (fun v i wr => ∃ (j c : Nat) (a : Option Addr) (zs : List Int), j ≤ len0 ∧ v = .slice a j c ∧ i = .int .i64 j ∧ Own w wr a j c zs ∧ Hid (CapsOk zs j)) (fun _ i _ => len0 - (intOf i).toNat)
  case atStart => exact ⟨0, 0, none, [], Nat.zero_le _, rfl, rfl, ⟨Items.nil _ _ _, fun _ h => by simp [Value.ownBlock] at h, Foot.refl _ _⟩, Lib.hid fun i hi => absurd hi (by omega)⟩
  case round =>
    obtain ⟨j, c, a, zs, hj, rfl, rfl, hO, HC⟩ := hrel
    have O := Lib.hid hO; clear hO
    by_cases hlt : j < len0
    · obtain ⟨b, off, rfl, hcell⟩ := W0.out.cells (by omega)
      obtain ⟨c0, hz⟩ := hcell j hlt
      have c1 := (O.out.foot.cell (p := ⟨b, off + j, none⟩) (World.block_lt_of_cell? w _ c0) id).trans c0
      clear hcell c0
      generalize z0 j = z at c1 hz
      have hw : IntKind.i64.wrap (1 + z % 32) = 1 + z % 32 := by rw [IntKind.wrap_i64]; omega
      have HC1 := Lib.hid (caps_snoc O.out.len HC.out (show 1 ≤ 1 + z % 32 ∧ 1 + z % 32 ≤ 32 by omega))
      go_wp2_with (at_builtin; refine wpList_append rfl (.tmp 26) (.tmp 34) 22 rfl 3 i0 (.int .i64 0) 1 Try.underlying22 hi hj0 hj1 rfl rfl (O.out.items.alloc _) ⟨wr.heap.size, 0, none⟩ 1 1 [.int .i64 (1 + z % 32)] rfl rfl (cell_one_new _ _ _) (by simp [Value.oneCell']) (by omega) (by unfold maxLen; omega) (by rw [hj2]; omega) ?_)
      intro a' c' w2 hI hF hM
      have O2 := Lib.hid (O.out.snoc _ hI hF hM)
      clear hI hF hM
      go_wp2_with fail
      go_roundw
      case rel => exact ⟨j + 1, c', a', _, by omega, rfl, by go_num, O2.out, HC1⟩
      case measure => simp [intOf]; omega
    · obtain rfl : j = len0 := by omega
      clear hlt
      have C1 := Lib.hid (New_ok a j c zs wr O.out.items.reads (by omega) HC.out)
      go_wp2_with fail
      refine C1.out.mono ?_
      rintro e w3 ⟨rfl, hL, hF⟩
      have S3 := Lib.hid (Side.of_new O.out hL hF)
      obtain ⟨P, hP⟩ : ∃ P, P = wr.heap.size := ⟨_, rfl⟩
      rw [← hP] at S3
      rw [← hP]
      clear hL hF C1 O HC hP
      go_wp2_with fail
      go_loopw [9] (fun i wr => ∃ (t : Nat) (H : Nat → Int), t ≤ len1 ∧ i = .int .i64 t ∧ Side w wr (P + 1) P j a c zs H) (fun i _ => len1 - (intOf i).toNat)
      case atStart => exact ⟨0, _, Nat.zero_le _, rfl, S3.out⟩
      case round =>
        obtain ⟨t, H, ht, rfl, hS⟩ := hrel
        have S := Lib.hid hS; clear hS S3
        by_cases hlt : t < len1
        · obtain ⟨b, off, rfl, c0, c1⟩ := W1.out.cell S.out.mine.below hlt
          generalize (z1 t).1 = q at c0
          generalize (z1 t).2 = x at c1
          by_cases h3 : Int.tmod q 3 = 0
          · skip
            go_wp2_with fail
            refine (xGive w _ _ j a c zs H x wr S.out).mono ?_
            rintro e w6 ⟨⟨r, rfl⟩, H', hS⟩
            have S6 := Lib.hid hS
            clear hS S
            go_wp2_with fail
            go_loopw [10] (fun i wr => ∃ k : Nat, k ≤ j ∧ i = .int .i64 k ∧ Side w wr (P + 1) P j a c zs H') (fun i _ => j - (intOf i).toNat)
            case atStart => exact ⟨0, Nat.zero_le _, rfl, S6.out⟩
            case round =>
              obtain ⟨k, hk, rfl, hS⟩ := hrel
              have S7 := Lib.hid hS
              clear hS S6
              by_cases hkj : k < j
              · have CF := Lib.hid fun n => Free (P + 1) P j _ H' (k : Nat) (wr.drewN n) (S7.out.still ((Foot.refl _ wr).drewN n)).mine.led
                have CH := Lib.hid fun n => Held (P + 1) P j _ H' (k : Nat) (wr.drewN n) (S7.out.still ((Foot.refl _ wr).drewN n)).mine.led
                have hb := S7.out.mine.led.fits.held k hkj
                have hc := S7.out.mine.led.fits.cap k hkj
                have e1 : freeOf j (capsOf zs j) H' (k : Nat) = capsOf zs j k - H' k := if_pos ⟨by omega, by omega⟩
                have e2 : heldOf j H' (k : Nat) = H' k := if_pos ⟨by omega, by omega⟩
                have e3 : capsOf zs j k = zs.getD k 0 := if_pos hkj
                simp only [e1, e3] at CF
                simp only [e2] at CH
                rw [e3] at hb hc
                clear e1 e2 e3
                obtain ⟨b2, off2, rfl, hcell⟩ := S7.out.reads.2 (by omega)
                have c3 := hcell k hkj
                clear hcell
                generalize zs.getD k 0 = z at CF hb hc c3
                generalize H' k = h at CF CH hb
                obtain ⟨f, hf⟩ : ∃ f, f = z - h := ⟨_, rfl⟩
                rw [← hf] at CF
                have hw : IntKind.i64.wrap (f + h) = z := by rw [IntKind.wrap_i64]; omega
                have hf0 : decide (f < 0) = false := decide_eq_false (by omega)
                have hh0 : decide (h < 0) = false := decide_eq_false (by omega)
                have hkj' : (k : Int) < (j : Int) := by omega
                clear hb hc hf
                go_wp2_with fail
                go_quiet (first
                  | (go_at_call 17; exact Calls.quiet_of (CF.out _))
                  | (go_at_call 19; exact Calls.quiet_of_same ((CH.out _).mono fun e w' h => ⟨h.1, h.2.symm⟩)))
                go_wp2_with fail
                go_roundw
                case rel => exact ⟨k + 1, by omega, by go_num, S7.out.still ((Foot.refl _ wr).drewN _)⟩
                case measure => simp [intOf]; omega
              · obtain rfl : k = j := by omega
                clear hkj
                go_wp2_with fail
                go_roundw
                case rel => exact ⟨t + 1, H', by omega, by go_num, S7.out⟩
                case measure => simp [intOf]; omega
          · skip
            go_wp2_with fail
            refine (xTake w _ _ j a c zs H x wr S.out).mono ?_
            rintro e w6 ⟨⟨r, rfl⟩, H', hS⟩
            have S6 := Lib.hid hS
            clear hS S
            go_wp2_with fail
            go_loopw [10] (fun i wr => ∃ k : Nat, k ≤ j ∧ i = .int .i64 k ∧ Side w wr (P + 1) P j a c zs H') (fun i _ => j - (intOf i).toNat)
            case atStart => exact ⟨0, Nat.zero_le _, rfl, S6.out⟩
            case round =>
              obtain ⟨k, hk, rfl, hS⟩ := hrel
              have S7 := Lib.hid hS
              clear hS S6
              by_cases hkj : k < j
              · have CF := Lib.hid fun n => Free (P + 1) P j _ H' (k : Nat) (wr.drewN n) (S7.out.still ((Foot.refl _ wr).drewN n)).mine.led
                have CH := Lib.hid fun n => Held (P + 1) P j _ H' (k : Nat) (wr.drewN n) (S7.out.still ((Foot.refl _ wr).drewN n)).mine.led
                have hb := S7.out.mine.led.fits.held k hkj
                have hc := S7.out.mine.led.fits.cap k hkj
                have e1 : freeOf j (capsOf zs j) H' (k : Nat) = capsOf zs j k - H' k := if_pos ⟨by omega, by omega⟩
                have e2 : heldOf j H' (k : Nat) = H' k := if_pos ⟨by omega, by omega⟩
                have e3 : capsOf zs j k = zs.getD k 0 := if_pos hkj
                simp only [e1, e3] at CF
                simp only [e2] at CH
                rw [e3] at hb hc
                clear e1 e2 e3
                obtain ⟨b2, off2, rfl, hcell⟩ := S7.out.reads.2 (by omega)
                have c3 := hcell k hkj
                clear hcell
                generalize zs.getD k 0 = z at CF hb hc c3
                generalize H' k = h at CF CH hb
                obtain ⟨f, hf⟩ : ∃ f, f = z - h := ⟨_, rfl⟩
                rw [← hf] at CF
                have hw : IntKind.i64.wrap (f + h) = z := by rw [IntKind.wrap_i64]; omega
                have hf0 : decide (f < 0) = false := decide_eq_false (by omega)
                have hh0 : decide (h < 0) = false := decide_eq_false (by omega)
                have hkj' : (k : Int) < (j : Int) := by omega
                clear hb hc hf
                go_wp2_with fail
                go_quiet (first
                  | (go_at_call 17; exact Calls.quiet_of (CF.out _))
                  | (go_at_call 19; exact Calls.quiet_of_same ((CH.out _).mono fun e w' h => ⟨h.1, h.2.symm⟩)))
                go_wp2_with fail
                go_roundw
                case rel => exact ⟨k + 1, by omega, by go_num, S7.out.still ((Foot.refl _ wr).drewN _)⟩
                case measure => simp [intOf]; omega
              · obtain rfl : k = j := by omega
                clear hkj
                go_wp2_with fail
                go_roundw
                case rel => exact ⟨t + 1, H', by omega, by go_num, S7.out⟩
                case measure => simp [intOf]; omega
        · have HB := Lib.hid S.out.mine.below
          have htl : len1 ≤ t := by omega
          go_wp2_with fail
          refine (known _).mono ?_
          rintro e w9 ⟨rfl, hb⟩
          have HB9 := Lib.hid (HB.out.trans (hb.mono HB.out.size))
          clear hb
          go_wp2_with fail
          go_ret
          exact ⟨rfl, HB9.out⟩

set_option maxRecDepth 100000 in
theorem lifted (os : Os) (started : os.Started) (H : Type) (enc : TypeId × Value → H) :
    ReturnsInHanded {} Try.checked os 4 .any (Rows.ledgerSumsSpec.pre6 enc Try.prog Try.f4 Rows.ledgerSumsRow.domain false) (Rows.ledgerSumsSpec.post enc Try.prog Try.f4 false true false false) := by
  refine returnsInHanded_of_change (C := Try.checked) own started (by kernel_rfl) Try.func4
    (ChangeSpec.witness6 (enc := enc) (C := Try.checked) false ⟨#[], #[.slice none 0 0, .slice none 0 0], []⟩ 8 (by kernel_rfl) (by kernel_rfl) (by kernel_rfl) (by kernel_rfl)) ?_
  intro W base args ds gs before hval0 hW hcnd _
  have hval : ∀ (j : Nat) t v, Try.f4.params[j]? = some t → args[j]? = some v → Value.okWide Try.prog W .any base t v := hval0
  have hW' := hW
  obtain ⟨p, q, hA0, hV, rfl, hfz, hnd⟩ := hW
  have hA : DataW.TrodAll enc Try.prog W 0 (fun _ => true) true Try.f4.params.toList args.toList ds p := hA0
  rw [Try.params4] at hA hval
  obtain ⟨v0, vs0, d0, ds0, p0, q0, hargs, rfl, rfl, h0, r0⟩ := trodAll_cons hA
  obtain ⟨v1, vs1, d1, ds1, p1, q1, rfl, rfl, rfl, h1, r1⟩ := trodAll_cons r0
  obtain ⟨rfl, rfl, rfl⟩ := trodAll_nil r1
  obtain rfl : args = #[v0, v1] := by cases args; simp_all
  obtain ⟨rfl, rfl⟩ := trodVars_none hV
  obtain ⟨a0, len0, cap0, rfl⟩ := okWide_slice Try.underlying40 (hval 0 40 v0 rfl rfl)
  have k0 := h0
  have lt0 : ∀ x ∈ p0, x.block < W.heap.size := by obtain ⟨m, hm⟩ := k0; exact DataW.trod_lt m _ _ _ hm
  obtain ⟨z0, w0⟩ := openA0 h0
  obtain ⟨a1, len1, cap1, rfl⟩ := okWide_slice Try.underlying23 (hval 1 23 v1 rfl rfl)
  have k1 := h1
  have lt1 : ∀ x ∈ p1, x.block < W.heap.size := by obtain ⟨m, hm⟩ := k1; exact DataW.trod_lt m _ _ _ hm
  obtain ⟨z1, w1⟩ := openA1 h1
  clear hA0 hval0
  refine (walk a0 len0 cap0 z0 a1 len1 cap1 z1 W w0 w1).mono fun e W' ⟨he, bel⟩ => ?_
  subst he
  exact ⟨_, rfl, _, _, _, [], _, [], hW', trodAll_mk1 (shut_bool Try.underlying4 _), (trodAll_cons_mk (Below.trod laidOut (by kernel_rfl) (of_decide_eq_true (by kernel_rfl)) k0 bel lt0) (trodAll_cons_mk (Below.trod laidOut (by kernel_rfl) (of_decide_eq_true (by kernel_rfl)) k1 bel lt1) trodAll_mk0)), rfl, bel.frame _, fun h => by cases h⟩

theorem over : Rows.ledgerSumsRow.holds Try.pinned (OpenSpec.ofChange Rows.ledgerSumsSpec) :=
  OpenClaim.holds_of_wide 4 Try.f4 rfl rfl rfl rfl rfl rfl rfl ⟨rfl, rfl, rfl, rfl, rfl⟩ rfl rfl rfl rfl rfl (by kernel_rfl) Try.func4 (by kernel_rfl)
    (of_decide_eq_true (by kernel_rfl)) (by unfold Func.isWrapper; first | (rw [if_pos (by decide +kernel)]; kernel_rfl) | (rw [if_neg (by decide +kernel)]; exact ⟨rfl, rfl⟩))
    (fun os started H enc _ => lifted os started H enc)

theorem proved : Rows.LedgerSumsSaid := over
#print axioms proved
end Go.Proofs.Ytjiagdooacieeaa.ledgerSums
