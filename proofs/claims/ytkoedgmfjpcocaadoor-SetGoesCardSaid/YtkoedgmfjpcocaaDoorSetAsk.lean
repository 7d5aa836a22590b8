/- The contracts of package idset that tell of a set: Has, Len, empty, first, Within; and Of. -/
import Derived.Test.YtkoedgmfjpcocaaDoorEq
import Derived.Deep.RegionHeld3
namespace Go.Proofs.YtkoedgmfjpcocaaDoor.Sets
open Go.RowKit Mem Words
set_option linter.unusedVariables false

/-- Is the number in the set? -/
def hasP (p : Nat → Bool) (i : Int) : Bool := decide (0 ≤ i ∧ i < 128) && p i.toNat
theorem bit_of (n : Nat) {i : Nat} (x : Nat) (hx : x < 18446744073709551616) (b : Bool) (h : x.testBit i = b) : bits .and .u64 ((x : Int) / 2 ^ i) 1 = ((if b then 1 else 0 : Nat) : Int) := by
  have h1 : (x : Int) / 2 ^ i = ((x / 2 ^ i : Nat) : Int) := by simp
  have h2 : x / 2 ^ i ≤ x := Nat.div_le_self _ _
  have h3 := u64_and_nat (x / 2 ^ i) 1 (by omega) (by omega)
  rw [h1]
  refine h3.trans ?_
  rw [nat_mask1]
  rw [Nat.testBit_eq_decide_div_mod_eq] at h
  subst h
  by_cases hh : x / 2 ^ i % 2 = 1
  · simp [hh]
  · simp [hh]; omega
theorem lo_bit {p : Nat → Bool} {i : Nat} (h : i < 64) : (lo p).testBit i = p i := by rw [show lo p = wdN 64 p from rfl, wdN_bit]; simp [h]
theorem hi_bit {p : Nat → Bool} {i : Nat} (h : 64 ≤ i) (h2 : i < 128) : (hi p).testBit (i - 64) = p i := by
  rw [show hi p = wdN 64 (fun j => p (64 + j)) from rfl, wdN_bit, show 64 + (i - 64) = i by omega]
  have : i - 64 < 64 := by omega
  simp [this]

theorem Has_lo (p : Nat → Bool) (i : Nat) (w : World) (h : i < 64) (b : Bool) (hb : p i = b) :
    Calls Tryd.prog 15 #[.agg #[.int .u64 (lo p : Nat), .int .u64 (hi p : Nat)], .int .i64 i] w fun e w' => e = .returned (.bool b) ∧ Foot (fun _ => False) w w' := by
  have e : decide (0 ≤ (i : Int) ∧ (i : Int) < 128) = true := decide_eq_true ⟨by omega, by omega⟩
  have C := fun w => fits i w (by omega)
  rw [e] at C
  have C' := Lib.hid C
  clear C e
  have q1 : (i : Int) / 64 = 0 := by omega
  have q2 : (i : Int) % 64 = i := by omega
  have q3 := bit_of 0 (lo p) (lo_lt p) b ((lo_bit h).trans hb)
  clear hb
  cases b <;> simp only [if_true, Bool.false_eq_true, if_false] at q3
  all_goals
    go_enter Tryd.func15, Tryd.ntmps15
    go_wp2_with fail
    refine (C'.out _).mono ?_
    rintro e w1 ⟨rfl, rfl⟩
    go_wp2_with fail
    go_ret
    exact ⟨rfl, (Foot.refl _ w).alloc _⟩
theorem Has_hi (p : Nat → Bool) (i : Nat) (w : World) (h1 : 64 ≤ i) (h : i < 128) (b : Bool) (hb : p i = b) :
    Calls Tryd.prog 15 #[.agg #[.int .u64 (lo p : Nat), .int .u64 (hi p : Nat)], .int .i64 i] w fun e w' => e = .returned (.bool b) ∧ Foot (fun _ => False) w w' := by
  have e : decide (0 ≤ (i : Int) ∧ (i : Int) < 128) = true := decide_eq_true ⟨by omega, by omega⟩
  have C := fun w => fits i w (by omega)
  rw [e] at C
  have C' := Lib.hid C
  clear C e
  have q1 : (i : Int) / 64 = 1 := by omega
  have q2 : (i : Int) % 64 = ((i - 64 : Nat) : Int) := by omega
  have q3 := bit_of 0 (hi p) (hi_lt p) b ((hi_bit h1 h).trans hb)
  clear hb
  cases b <;> simp only [if_true, Bool.false_eq_true, if_false] at q3
  all_goals
    go_enter Tryd.func15, Tryd.ntmps15
    go_wp2_with fail
    refine (C'.out _).mono ?_
    rintro e w1 ⟨rfl, rfl⟩
    go_wp2_with fail
    go_ret
    exact ⟨rfl, (Foot.refl _ w).alloc _⟩
theorem Has_out (p : Nat → Bool) (i : Int) (w : World) (hi' : -9223372036854775808 ≤ i ∧ i ≤ 9223372036854775807) (h : ¬ (0 ≤ i ∧ i < 128)) :
    Calls Tryd.prog 15 #[.agg #[.int .u64 (lo p : Nat), .int .u64 (hi p : Nat)], .int .i64 i] w fun e w' => e = .returned (.bool false) ∧ Foot (fun _ => False) w w' := by
  have C := fun w => fits i w hi'
  rw [decide_eq_false h] at C
  have C' := Lib.hid C
  clear C h hi'
  go_enter Tryd.func15, Tryd.ntmps15
  go_wp2_with fail
  refine (C'.out _).mono ?_
  rintro e w1 ⟨rfl, rfl⟩
  go_wp2_with fail
  go_ret
  exact ⟨rfl, (Foot.refl _ w).alloc _⟩
theorem Has (p : Nat → Bool) (i : Int) (w : World) (hi' : -9223372036854775808 ≤ i ∧ i ≤ 9223372036854775807) :
    Calls Tryd.prog 15 #[.agg #[.int .u64 (lo p : Nat), .int .u64 (hi p : Nat)], .int .i64 i] w fun e w' => e = .returned (.bool (hasP p i)) ∧ Foot (fun _ => False) w w' := by
  unfold hasP
  by_cases h : 0 ≤ i ∧ i < 128
  · rw [decide_eq_true h, Bool.true_and]
    obtain ⟨n, rfl⟩ : ∃ n : Nat, i = n := ⟨i.toNat, by omega⟩
    rw [Int.toNat_natCast]
    rcases Nat.lt_or_ge n 64 with h2 | h2
    · exact Has_lo p n w h2 _ rfl
    · exact Has_hi p n w h2 (by omega) _ rfl
  · rw [decide_eq_false h, Bool.false_and]
    exact Has_out p i w hi' h
/-- A cell that was there stays. -/
theorem hold {w w1 : World} (hF : Foot (fun _ => False) w w1) {a : Addr} {v : Value} (h : w.cell? a = some v) : w1.cell? a = some v := (hF.cell (World.block_lt_of_cell? _ _ h) id).trans h
theorem Within (p q : Nat → Bool) (w : World) :
    Calls Tryd.prog 23 #[.agg #[.int .u64 (lo p : Nat), .int .u64 (hi p : Nat)], .agg #[.int .u64 (lo q : Nat), .int .u64 (hi q : Nat)]] w fun e w' => e = .returned (.bool (decide (Agree (andP p q) p))) ∧ Foot (fun _ => False) w w' := by
  have hq := fun w => eqWords (andP p q) p w
  have hfd := fun w => field0 (.int .u64 (lo (andP p q) : Nat)) (.int .u64 (hi (andP p q) : Nat)) w
  go_enter Tryd.func23, Tryd.ntmps23
  go_wp2_with fail
  have A0 := (At.new w 28 #[.int .u64 (lo p : Nat), .int .u64 (hi p : Nat)]).alloc (.cells #[.int .u64 (lo q : Nat), .int .u64 (hi q : Nat)] 28)
  have A1 := At.new (w.alloc (.cells #[.int .u64 (lo p : Nat), .int .u64 (hi p : Nat)] 28)) 28 #[.int .u64 (lo q : Nat), .int .u64 (hi q : Nat)]
  rw [World.size_alloc] at A1
  have HF0 : Hid (Foot (fun _ => False) w ((w.alloc (.cells #[.int .u64 (lo p : Nat), .int .u64 (hi p : Nat)] 28)).alloc (.cells #[.int .u64 (lo q : Nat), .int .u64 (hi q : Nat)] 28))) := Lib.hid (((Foot.refl _ w).alloc _).alloc _)
  generalize (w.alloc (.cells #[.int .u64 (lo p : Nat), .int .u64 (hi p : Nat)] 28)).alloc (.cells #[.int .u64 (lo q : Nat), .int .u64 (hi q : Nat)] 28) = wd at *
  have c0 : wd.cell? ⟨w.heap.size, 0, none⟩ = some (.int .u64 (lo p : Nat)) := A0.cell 0
  have c1 : wd.cell? ⟨w.heap.size, 1, none⟩ = some (.int .u64 (hi p : Nat)) := A0.cell 1
  have d0 : wd.cell? ⟨w.heap.size + 1, 0, none⟩ = some (.int .u64 (lo q : Nat)) := A1.cell 0
  have d1 : wd.cell? ⟨w.heap.size + 1, 1, none⟩ = some (.int .u64 (hi q : Nat)) := A1.cell 1
  clear A0 A1
  go_region_held3 (fun w' => w'.cell? ⟨w.heap.size, 0, none⟩ = some (.int .u64 (lo p : Nat)) ∧ w'.cell? ⟨w.heap.size, 1, none⟩ = some (.int .u64 (hi p : Nat)) ∧
      w'.cell? ⟨w.heap.size + 1, 0, none⟩ = some (.int .u64 (lo q : Nat)) ∧ w'.cell? ⟨w.heap.size + 1, 1, none⟩ = some (.int .u64 (hi q : Nat)))
    (first | go_keep | (go_split_ands; refine ⟨?_, ?_, ?_, ?_⟩ <;> exact hold hF2 (by assumption)))
    ((go_at_call 19; refine (And p q _).mono ?_; rintro e w2 ⟨rfl, hF2⟩))
  go_wp2_with fail
  go_ret
  exact ⟨rfl, HF0.out.drew.trans hF2 fun _ _ h => h⟩

theorem empty (p : Nat → Bool) (w : World) :
    Calls Tryd.prog 30 #[.agg #[.int .u64 (lo p : Nat), .int .u64 (hi p : Nat)]] w fun e w' => e = .returned (.bool (decide (els p = []))) ∧ Foot (fun _ => False) w w' := by
  have hq := fun w => none_words p w
  go_enter Tryd.func30, Tryd.ntmps30
  go_wp2_with fail
  go_ret
  exact ⟨rfl, (Foot.refl _ w).alloc _⟩
theorem Len (p : Nat → Bool) (w : World) :
    Calls Tryd.prog 14 #[.agg #[.int .u64 (lo p : Nat), .int .u64 (hi p : Nat)]] w fun e w' => e = .returned (.int .i64 ((els p).length : Nat)) ∧ Foot (fun _ => False) w w' := by
  have hle := els_le p
  generalize he : (els p).length = m at hle
  have hc := els_len p
  have h1 := cnt_le 64 (lo p)
  have h2 := cnt_le 64 (hi p)
  have Cl := Lib.hid fun w => ones (lo p) w (lo_lt p)
  have Ch := Lib.hid fun w => ones (hi p) w (hi_lt p)
  generalize ha : cnt 64 (lo p) = a at *
  generalize hb : cnt 64 (hi p) = b at *
  have HC := Lib.hid (he.symm.trans hc)
  clear hc he ha hb
  go_enter Tryd.func14, Tryd.ntmps14
  go_wp2_with fail
  go_loop [3, 8] (fun n i => (n = .int .i64 0 ∧ i = .int .i64 0) ∨ (n = .int .i64 a ∧ i = .int .i64 1) ∨ (n = .int .i64 m ∧ i = .int .i64 2)) (fun _ i => 2 - (intOf i).toNat)
  case atStart => exact .inl ⟨rfl, rfl⟩
  case round =>
    rcases hrel with ⟨rfl, rfl⟩ | ⟨rfl, rfl⟩ | ⟨rfl, rfl⟩
    · go_wp2_with (with_reducible refine wpList_index rfl (.tmp 7) (.tmp 8) 26 rfl _ _ _ rfl rfl (idx0 _ _ _) ?_)
      refine (Cl.out _).mono ?_
      rintro e w1 ⟨rfl, rfl⟩
      go_wp2_with fail
      go_round
      case rel => exact .inr (.inl ⟨rfl, rfl⟩)
      case measure => simp [intOf]
    · go_wp2_with (with_reducible refine wpList_index rfl (.tmp 7) (.tmp 8) 26 rfl _ _ _ rfl rfl (idx1 _ _ _) ?_)
      refine (Ch.out _).mono ?_
      rintro e w1 ⟨rfl, rfl⟩
      go_wp2_with fail
      go_round
      case rel => exact .inr (.inr ⟨by rw [HC.out]; go_num, rfl⟩)
      case measure => simp [intOf]
    · go_wp2_with fail
      go_ret
      exact ⟨rfl, (Foot.refl _ w).alloc _⟩
theorem Tab.foot {S : Nat → Prop} {w w1 : World} (h : Tab w) (hF : Foot S w w1) (hS : ¬ S 0) : Tab w1 :=
  ⟨Nat.lt_of_lt_of_le h.1 hF.size, fun j hj => (hF.cell h.1 hS).trans (h.2 j hj)⟩
theorem Tab.alloc {w : World} (h : Tab w) (o : Obj) : Tab (w.alloc o) := h.foot (S := fun _ => False) ((Foot.refl _ w).alloc o) id
/-- Where the loop over the words may stand. -/
def Stands (n : Nat) (i : Value) : Prop := i = .int .i64 0 ∨ (1 ≤ n ∧ i = .int .i64 1) ∨ (2 ≤ n ∧ i = .int .i64 2)
theorem first (p : Nat → Bool) (w : World) (hT : Tab w) :
    Calls Tryd.prog 31 #[.agg #[.int .u64 (lo p : Nat), .int .u64 (hi p : Nat)]] w fun e w' => e = .returned (.int .i64 (Words.first p : Nat)) ∧ Foot (fun _ => False) w w' := by
  have Cl := Lib.hid fun w hT => tz (lo p) w (lo_lt p) hT
  have Ch := Lib.hid fun w hT => tz (hi p) w (hi_lt p) hT
  have HT := Lib.hid hT; clear hT
  have hf : Hid (Words.first p = if lo p = 0 then (if hi p = 0 then 128 else 64 + Lib.ctz 64 (hi p)) else Lib.ctz 64 (lo p)) := Lib.hid rfl
  have hcl : lo p ≠ 0 → Lib.ctz 64 (lo p) < 64 := fun h => (ctz_bits h (lo_lt p)).1
  have hch : hi p ≠ 0 → Lib.ctz 64 (hi p) < 64 := fun h => (ctz_bits h (hi_lt p)).1
  generalize Words.first p = m at hf ⊢
  generalize Lib.ctz 64 (lo p) = a at *
  generalize Lib.ctz 64 (hi p) = b at *
  by_cases h0 : lo p = 0
  · by_cases h1 : hi p = 0
    · have hm : Hid (m = 128) := Lib.hid (by rw [hf.out, if_pos h0, if_pos h1])
      rw [h0, h1] at *
      clear Cl Ch hcl hch hf h0 h1
      go_enter Tryd.func31, Tryd.ntmps31
      go_wp2_with fail
      go_loop [7] (fun i => Stands 2 i) (fun i => 2 - (intOf i).toNat)
      case atStart => exact .inl rfl
      case round =>
        rcases hrel with rfl | ⟨_, rfl⟩ | ⟨_, rfl⟩
        · go_wp2_with (with_reducible refine wpList_index rfl (.tmp 6) (.tmp 7) 26 rfl _ _ _ rfl rfl (idx0 _ _ _) ?_)
          go_round
          case rel => exact ⟨_, _, _, _, .inr (.inl ⟨by omega, rfl⟩), rfl, rfl, rfl, rfl⟩
          case measure => simp [intOf]
        · go_wp2_with (with_reducible refine wpList_index rfl (.tmp 6) (.tmp 7) 26 rfl _ _ _ rfl rfl (idx1 _ _ _) ?_)
          go_round
          case rel => exact ⟨_, _, _, _, .inr (.inr ⟨by omega, rfl⟩), rfl, rfl, rfl, rfl⟩
          case measure => simp [intOf]
        · go_wp2_with fail
          go_ret
          exact ⟨by rw [hm.out]; rfl, (Foot.refl _ w).alloc _⟩
    · have hm : Hid (m = 64 + b) := Lib.hid (by rw [hf.out, if_pos h0, if_neg h1])
      have hb := hch h1
      have hne : (((hi p : Nat) : Int) != 0) = true := by simp; omega
      rw [h0] at *
      clear Cl hcl hch hf h0 h1
      go_enter Tryd.func31, Tryd.ntmps31
      go_wp2_with fail
      go_loop [7] (fun i => Stands 1 i) (fun i => 2 - (intOf i).toNat)
      case atStart => exact .inl rfl
      case round =>
        obtain rfl | rfl : _ = Value.int .i64 0 ∨ _ = Value.int .i64 1 := by rcases hrel with h | ⟨_, h⟩ | ⟨h, _⟩; exact .inl h; exact .inr h; exact absurd h (by omega)
        · go_wp2_with (with_reducible refine wpList_index rfl (.tmp 6) (.tmp 7) 26 rfl _ _ _ rfl rfl (idx0 _ _ _) ?_)
          go_round
          case rel => exact ⟨_, _, _, _, .inr (.inl ⟨by omega, rfl⟩), rfl, rfl, rfl, rfl⟩
          case measure => simp [intOf]
        · go_wp2_with (with_reducible refine wpList_index rfl (.tmp 6) (.tmp 7) 26 rfl _ _ _ rfl rfl (idx1 _ _ _) ?_)
          refine (Ch.out _ (HT.out.alloc _)).mono ?_
          rintro e w1 ⟨rfl, rfl⟩
          go_wp2_with fail
          go_ret
          exact ⟨by rw [hm.out]; go_num, (Foot.refl _ w).alloc _⟩
  · have hm : Hid (m = a) := Lib.hid (by rw [hf.out, if_neg h0])
    have hb := hcl h0
    have hne : (((lo p : Nat) : Int) != 0) = true := by simp; omega
    clear Ch hcl hch hf h0
    go_enter Tryd.func31, Tryd.ntmps31
    go_wp2_with fail
    go_loop [7] (fun i => Stands 0 i) (fun i => 2 - (intOf i).toNat)
    case atStart => exact .inl rfl
    case round =>
      obtain rfl : _ = Value.int .i64 0 := by rcases hrel with h | ⟨h, _⟩ | ⟨h, _⟩; exact h; exact absurd h (by omega); exact absurd h (by omega)
      go_wp2_with (with_reducible refine wpList_index rfl (.tmp 6) (.tmp 7) 26 rfl _ _ _ rfl rfl (idx0 _ _ _) ?_)
      refine (Cl.out _ (HT.out.alloc _)).mono ?_
      rintro e w1 ⟨rfl, rfl⟩
      go_wp2_with fail
      go_ret
      exact ⟨by rw [hm.out]; go_num, (Foot.refl _ w).alloc _⟩
theorem of_step {zs : List Int} {k : Nat} (h : k < zs.length) : Agree (addP (ofP (zs.take k)) (zs.getD k 0)) (ofP (zs.take (k + 1))) := by
  intro j _
  simp only [addP, ofP]
  rw [List.take_succ_eq_append_getElem h, List.getD_eq_getElem?_getD, List.getElem?_eq_getElem h, Option.getD_some]
  rw [Bool.eq_iff_iff]
  simp only [List.contains_eq_mem, List.mem_append, List.mem_singleton, Bool.or_eq_true, decide_eq_true_eq]

theorem Of (a : Option Addr) (n cap : Nat) (zs : List Int) (w : World) (hr : ReadsI w a n zs) (hn : n ≤ 9223372036854775807) (hz : ∀ z ∈ zs, -9223372036854775808 ≤ z ∧ z ≤ 9223372036854775807) :
    Calls Tryd.prog 10 #[.slice a n cap] w fun e w' => e = .returned (.agg #[.int .u64 (lo (ofP zs) : Nat), .int .u64 (hi (ofP zs) : Nat)]) ∧ Foot (fun _ => False) w w' := by
  have hl := hr.1
  have HR := Lib.hid hr
  have HZ := Lib.hid hz
  clear hr hz
  have h0 : Hid (lo (ofP []) = 0 ∧ hi (ofP []) = 0) := Lib.hid ⟨lo_none, hi_none⟩
  go_enter Tryd.func10, Tryd.ntmps10
  go_wp2_with fail
  go_loopw [8] (fun i wr => ∃ k : Nat, k ≤ n ∧ i = .int .i64 k ∧ At wr (w.heap.size + 1) 28 #[.int .u64 (lo (ofP (zs.take k)) : Nat), .int .u64 (hi (ofP (zs.take k)) : Nat)] ∧
      At wr w.heap.size 28 #[.int .u64 0, .int .u64 0] ∧ Foot (fun _ => False) w wr) (fun i _ => n - (intOf i).toNat)
  case atStart =>
    refine ⟨0, Nat.zero_le _, rfl, ?_, (At.new _ _ _).alloc _, ((Foot.refl _ w).alloc _).alloc _⟩
    have := At.new (w.alloc (.cells #[.int .u64 0, .int .u64 0] 28)) 28 #[.int .u64 0, .int .u64 0]
    rw [World.size_alloc] at this
    rw [List.take_zero, h0.out.1, h0.out.2]
    exact this
  case round =>
    obtain ⟨k, hk, rfl, hA, hB, hF⟩ := hrel
    have c0 : wr.cell? ⟨w.heap.size + 1, 0, none⟩ = some (.int .u64 (lo (ofP (zs.take k)) : Nat)) := hA.cell 0
    have c1 : wr.cell? ⟨w.heap.size + 1, 1, none⟩ = some (.int .u64 (hi (ofP (zs.take k)) : Nat)) := hA.cell 1
    have f0 := hA.free 0
    have f1 := hA.free 1
    have d0 : wr.cell? ⟨w.heap.size, 0, none⟩ = some (.int .u64 0) := hB.cell 0
    have d1 : wr.cell? ⟨w.heap.size, 1, none⟩ = some (.int .u64 0) := hB.cell 1
    have g0 := hB.free 0
    have g1 := hB.free 1
    have HA := Lib.hid hA; have HB := Lib.hid hB; have HF := Lib.hid hF
    clear hA hB hF
    by_cases hlt : k < n
    · obtain ⟨b, off, rfl, hc⟩ := (HR.out.keep HF.out fun _ _ => id).2 (by omega)
      have hcj := hc k hlt
      clear hc
      have hst := of_step (zs := zs) (k := k) (by omega)
      have hzz := HZ.out (zs.getD k 0) (by rw [List.getD_eq_getElem?_getD, List.getElem?_eq_getElem (by omega)]; exact List.getElem_mem _)
      generalize zs.getD k 0 = z at hcj hst hzz
      generalize ofP (zs.take k) = p at *
      have HS := Lib.hid hst; clear hst
      go_wp2_with fail
      refine (With p z _ hzz).mono ?_
      rintro e w2 ⟨rfl, hF2⟩
      have e0 := hold hF2 c0
      have e1 := hold hF2 c1
      have k0 : w2.frozen? ⟨w.heap.size + 1, 0, none⟩ = false := (HA.out.keep hF2 id).free 0
      have k1 : w2.frozen? ⟨w.heap.size + 1, 1, none⟩ = false := (HA.out.keep hF2 id).free 1
      have HF2 := Lib.hid hF2; clear hF2
      go_wp2_with fail
      go_roundw
      case rel =>
        refine ⟨k + 1, by omega, by go_num, ?_, ?_, ?_⟩
        · rw [← lo_congr HS.out, ← hi_congr HS.out]
          exact ((HA.out.keep HF2.out id).set 0 _).set 1 _
        · exact ((HB.out.keep HF2.out id).setOther (by simp) _).setOther (by simp) _
        · exact ((HF.out.trans HF2.out fun _ _ h => h).setNew _ _ (by omega) _).setNew _ _ (by omega) _
      case measure => simp [intOf]; omega
    · obtain rfl : k = n := by omega
      have ht : Hid (zs.take k = zs) := Lib.hid (List.take_of_length_le (by omega))
      rw [ht.out] at c0 c1 HA
      clear hlt
      go_wp2_with fail
      refine bodyPost_ret (v := .agg #[.int .u64 (lo (ofP zs) : Nat), .int .u64 (hi (ofP zs) : Nat)]) (by simp [results, Tryd.results10, go_sem, *]) rfl ⟨rfl, ?_⟩
      exact (HF.out.setNew _ _ (by omega) _).setNew _ _ (by omega) _

theorem All (p : Nat → Bool) (w : World) :
    Calls Tryd.prog 26 #[.agg #[.int .u64 (lo p : Nat), .int .u64 (hi p : Nat)]] w fun e w' => e = .returned (.func (.func 29) #[] #[.pointer (some ⟨w.heap.size, 0, none⟩)]) ∧
      At w' w.heap.size 28 #[.int .u64 (lo p : Nat), .int .u64 (hi p : Nat)] ∧ Foot (fun _ => False) w w' := by
  go_enter Tryd.func26, Tryd.ntmps26
  go_wp2_with fail
  go_ret
  exact ⟨rfl, At.new _ _ _, (Foot.refl _ w).alloc _⟩
end Go.Proofs.YtkoedgmfjpcocaaDoor.Sets
