/- The contracts of package idset that take a set and give a set. -/
import Derived.Test.YtkoedgmfjpcocaaDoorIndex
namespace Go.Proofs.YtkoedgmfjpcocaaDoor.Sets
open Go.RowKit Mem Words
set_option linter.unusedVariables false

theorem With_lo (p : Nat → Bool) (i : Nat) (w : World) (h : i < 64) :
    Calls Tryd.prog 25 #[.agg #[.int .u64 (lo p : Nat), .int .u64 (hi p : Nat)], .int .i64 i] w fun e w' => e = .returned (.agg #[.int .u64 (lo (addP p i) : Nat), .int .u64 (hi (addP p i) : Nat)]) ∧ Foot (fun _ => False) w w' := by
  have e : decide (0 ≤ (i : Int) ∧ (i : Int) < 128) = true := decide_eq_true ⟨by omega, by omega⟩
  have C := fun w => fits i w (by omega)
  rw [e] at C
  have C' := Lib.hid C
  clear C e
  have hb : 2 ^ i < 18446744073709551616 := Nat.pow_lt_pow_right (a := 2) (n := 64) (by omega) (by omega)
  have q3 : bits .or .u64 (lo p : Nat) (IntKind.u64.wrap (2 ^ i)) = (lo (addP p i) : Nat) := by
    have h2 : (2 ^ i : Int) = ((2 ^ i : Nat) : Int) := by simp
    rw [h2, wrap_nat _ hb, u64_or_nat _ _ (lo_lt p) hb, (add_lo h (p := p)).1]
  have HO := Lib.hid (congrArg (fun n : Nat => (n : Int)) (add_lo h (p := p)).2)
  clear hb
  go_enter Tryd.func25, Tryd.ntmps25
  go_wp2_with fail
  refine (C'.out _).mono ?_
  rintro e w1 ⟨rfl, rfl⟩
  go_wp2_with fail
  obtain ⟨wd, hwd⟩ : ∃ wd, ((w.alloc (Obj.cells #[Value.int IntKind.u64 ((lo p : Nat) : Int), Value.int IntKind.u64 ((hi p : Nat) : Int)] 28)).alloc (Obj.cells #[Value.int IntKind.u64 0, Value.int IntKind.u64 0] 28)) = wd := ⟨_, rfl⟩
  rw [hwd]
  have A0 : At wd w.heap.size 28 #[Value.int IntKind.u64 ((lo p : Nat) : Int), Value.int IntKind.u64 ((hi p : Nat) : Int)] := by rw [← hwd]; exact (At.new _ _ _).alloc _
  have A1 : At wd (w.heap.size + 1) 28 #[Value.int IntKind.u64 0, Value.int IntKind.u64 0] := by
    rw [← hwd]
    have := At.new (w.alloc (Obj.cells #[Value.int IntKind.u64 ((lo p : Nat) : Int), Value.int IntKind.u64 ((hi p : Nat) : Int)] 28)) 28 #[Value.int IntKind.u64 0, Value.int IntKind.u64 0]
    rwa [World.size_alloc] at this
  have HF : Hid (Foot (fun _ => False) w wd) := Lib.hid (by rw [← hwd]; exact ((Foot.refl _ w).alloc _).alloc _)
  clear hwd C'
  have c0 : wd.cell? ⟨w.heap.size, 0, none⟩ = some (.int .u64 (lo p : Nat)) := A0.cell 0
  have c1 : wd.cell? ⟨w.heap.size, 1, none⟩ = some (.int .u64 (hi p : Nat)) := A0.cell 1
  have d0 : wd.cell? ⟨w.heap.size + 1, 0, none⟩ = some (.int .u64 0) := A1.cell 0
  have d1 : wd.cell? ⟨w.heap.size + 1, 1, none⟩ = some (.int .u64 0) := A1.cell 1
  have f0 := A0.free 0
  have f1 := A0.free 1
  have g0 := A1.free 0
  have g1 := A1.free 1
  clear A0 A1
  have q1 : IntKind.i64.wrap ((i : Int) / 64) = 0 := by rw [IntKind.wrap_i64]; omega
  have q2 : (i : Int).tmod 64 = i := by rw [Int.tmod_eq_emod_of_nonneg (by omega)]; omega
  go_still_tail 11, (by kernel_rfl)
  change wpList _ _ _ _ _ wd.drew
  go_wp2_with fail
  refine bodyPost_ret (v := .agg #[.int .u64 (lo (addP p i) : Nat), .int .u64 (hi (addP p i) : Nat)]) (by simp [results, Tryd.results25, go_sem, *]; exact HO.out) rfl ⟨rfl, ?_⟩
  exact (((HF.out.setNew _ _ (by omega) _).setNew _ _ (by omega) _).setNew _ _ (by omega) _).drew

theorem With_hi (p : Nat → Bool) (i : Nat) (w : World) (h1 : 64 ≤ i) (h : i < 128) :
    Calls Tryd.prog 25 #[.agg #[.int .u64 (lo p : Nat), .int .u64 (hi p : Nat)], .int .i64 i] w fun e w' => e = .returned (.agg #[.int .u64 (lo (addP p i) : Nat), .int .u64 (hi (addP p i) : Nat)]) ∧ Foot (fun _ => False) w w' := by
  have e : decide (0 ≤ (i : Int) ∧ (i : Int) < 128) = true := decide_eq_true ⟨by omega, by omega⟩
  have C := fun w => fits i w (by omega)
  rw [e] at C
  have C' := Lib.hid C
  clear C e
  have hb : 2 ^ (i - 64) < 18446744073709551616 := Nat.pow_lt_pow_right (a := 2) (n := 64) (by omega) (by omega)
  have q3 : bits .or .u64 (hi p : Nat) (IntKind.u64.wrap (2 ^ (i - 64))) = (hi (addP p i) : Nat) := by
    have h2 : (2 ^ (i - 64) : Int) = ((2 ^ (i - 64) : Nat) : Int) := by simp
    rw [h2, wrap_nat _ hb, u64_or_nat _ _ (hi_lt p) hb, (add_hi h1 h (p := p)).1]
  have HO := Lib.hid (congrArg (fun n : Nat => (n : Int)) (add_hi h1 h (p := p)).2)
  clear hb
  go_enter Tryd.func25, Tryd.ntmps25
  go_wp2_with fail
  refine (C'.out _).mono ?_
  rintro e w1 ⟨rfl, rfl⟩
  go_wp2_with fail
  obtain ⟨wd, hwd⟩ : ∃ wd, ((w.alloc (Obj.cells #[Value.int IntKind.u64 ((lo p : Nat) : Int), Value.int IntKind.u64 ((hi p : Nat) : Int)] 28)).alloc (Obj.cells #[Value.int IntKind.u64 0, Value.int IntKind.u64 0] 28)) = wd := ⟨_, rfl⟩
  rw [hwd]
  have A0 : At wd w.heap.size 28 #[Value.int IntKind.u64 ((lo p : Nat) : Int), Value.int IntKind.u64 ((hi p : Nat) : Int)] := by rw [← hwd]; exact (At.new _ _ _).alloc _
  have A1 : At wd (w.heap.size + 1) 28 #[Value.int IntKind.u64 0, Value.int IntKind.u64 0] := by
    rw [← hwd]
    have := At.new (w.alloc (Obj.cells #[Value.int IntKind.u64 ((lo p : Nat) : Int), Value.int IntKind.u64 ((hi p : Nat) : Int)] 28)) 28 #[Value.int IntKind.u64 0, Value.int IntKind.u64 0]
    rwa [World.size_alloc] at this
  have HF : Hid (Foot (fun _ => False) w wd) := Lib.hid (by rw [← hwd]; exact ((Foot.refl _ w).alloc _).alloc _)
  clear hwd C'
  have c0 : wd.cell? ⟨w.heap.size, 0, none⟩ = some (.int .u64 (lo p : Nat)) := A0.cell 0
  have c1 : wd.cell? ⟨w.heap.size, 1, none⟩ = some (.int .u64 (hi p : Nat)) := A0.cell 1
  have d0 : wd.cell? ⟨w.heap.size + 1, 0, none⟩ = some (.int .u64 0) := A1.cell 0
  have d1 : wd.cell? ⟨w.heap.size + 1, 1, none⟩ = some (.int .u64 0) := A1.cell 1
  have f0 := A0.free 0
  have f1 := A0.free 1
  have g0 := A1.free 0
  have g1 := A1.free 1
  clear A0 A1
  have q1 : IntKind.i64.wrap ((i : Int) / 64) = 1 := by rw [IntKind.wrap_i64]; omega
  have q2 : (i : Int).tmod 64 = ((i - 64 : Nat) : Int) := by rw [Int.tmod_eq_emod_of_nonneg (by omega)]; omega
  go_still_tail 11, (by kernel_rfl)
  change wpList _ _ _ _ _ wd.drew
  go_wp2_with fail
  refine bodyPost_ret (v := .agg #[.int .u64 (lo (addP p i) : Nat), .int .u64 (hi (addP p i) : Nat)]) (by simp [results, Tryd.results25, go_sem, *]; exact HO.out) rfl ⟨rfl, ?_⟩
  exact (((HF.out.setNew _ _ (by omega) _).setNew _ _ (by omega) _).setNew _ _ (by omega) _).drew

theorem With_out (p : Nat → Bool) (i : Int) (w : World) (hi' : -9223372036854775808 ≤ i ∧ i ≤ 9223372036854775807) (h : ¬ (0 ≤ i ∧ i < 128)) :
    Calls Tryd.prog 25 #[.agg #[.int .u64 (lo p : Nat), .int .u64 (hi p : Nat)], .int .i64 i] w fun e w' => e = .returned (.agg #[.int .u64 (lo (addP p i) : Nat), .int .u64 (hi (addP p i) : Nat)]) ∧ Foot (fun _ => False) w w' := by
  rw [lo_congr (add_out (p := p) h), hi_congr (add_out (p := p) h)]
  have C := fun w => fits i w hi'
  rw [decide_eq_false h] at C
  have C' := Lib.hid C
  clear C h hi'
  go_enter Tryd.func25, Tryd.ntmps25
  go_wp2_with fail
  refine (C'.out _).mono ?_
  rintro e w1 ⟨rfl, rfl⟩
  go_wp2_with fail
  refine bodyPost_ret (v := .agg #[.int .u64 (lo p : Nat), .int .u64 (hi p : Nat)]) (by simp [results, Tryd.results25, go_sem]) rfl ⟨rfl, ?_⟩
  exact ((Foot.refl (fun _ => False) w).alloc _).alloc _
/-- Whatever the number. -/
theorem With (p : Nat → Bool) (i : Int) (w : World) (hi' : -9223372036854775808 ≤ i ∧ i ≤ 9223372036854775807) :
    Calls Tryd.prog 25 #[.agg #[.int .u64 (lo p : Nat), .int .u64 (hi p : Nat)], .int .i64 i] w fun e w' => e = .returned (.agg #[.int .u64 (lo (addP p i) : Nat), .int .u64 (hi (addP p i) : Nat)]) ∧ Foot (fun _ => False) w w' := by
  by_cases h : 0 ≤ i ∧ i < 128
  · obtain ⟨n, rfl⟩ : ∃ n : Nat, i = n := ⟨i.toNat, by omega⟩
    rcases Nat.lt_or_ge n 64 with h2 | h2
    · exact With_lo p n w h2
    · exact With_hi p n w h2 (by omega)
  · exact With_out p i w hi' h

theorem Without_lo (p : Nat → Bool) (i : Nat) (w : World) (h : i < 64) :
    Calls Tryd.prog 24 #[.agg #[.int .u64 (lo p : Nat), .int .u64 (hi p : Nat)], .int .i64 i] w fun e w' => e = .returned (.agg #[.int .u64 (lo (delP p i) : Nat), .int .u64 (hi (delP p i) : Nat)]) ∧ Foot (fun _ => False) w w' := by
  have e : decide (0 ≤ (i : Int) ∧ (i : Int) < 128) = true := decide_eq_true ⟨by omega, by omega⟩
  have C := fun w => fits i w (by omega)
  rw [e] at C
  have C' := Lib.hid C
  clear C e
  have hb : 2 ^ i < 18446744073709551616 := Nat.pow_lt_pow_right (a := 2) (n := 64) (by omega) (by omega)
  have q3 : bits .andNot .u64 (lo p : Nat) (IntKind.u64.wrap (2 ^ i)) = (lo (delP p i) : Nat) := by
    have h2 : (2 ^ i : Int) = ((2 ^ i : Nat) : Int) := by simp
    rw [h2, wrap_nat _ hb, u64_andNot_nat _ _ (lo_lt p) hb, (del_lo h (p := p)).1]
  have HO := Lib.hid (congrArg (fun n : Nat => (n : Int)) (del_lo h (p := p)).2)
  clear hb
  go_enter Tryd.func24, Tryd.ntmps24
  go_wp2_with fail
  refine (C'.out _).mono ?_
  rintro e w1 ⟨rfl, rfl⟩
  go_wp2_with fail
  obtain ⟨wd, hwd⟩ : ∃ wd, ((w.alloc (Obj.cells #[Value.int IntKind.u64 ((lo p : Nat) : Int), Value.int IntKind.u64 ((hi p : Nat) : Int)] 28)).alloc (Obj.cells #[Value.int IntKind.u64 0, Value.int IntKind.u64 0] 28)) = wd := ⟨_, rfl⟩
  rw [hwd]
  have A0 : At wd w.heap.size 28 #[Value.int IntKind.u64 ((lo p : Nat) : Int), Value.int IntKind.u64 ((hi p : Nat) : Int)] := by rw [← hwd]; exact (At.new _ _ _).alloc _
  have A1 : At wd (w.heap.size + 1) 28 #[Value.int IntKind.u64 0, Value.int IntKind.u64 0] := by
    rw [← hwd]
    have := At.new (w.alloc (Obj.cells #[Value.int IntKind.u64 ((lo p : Nat) : Int), Value.int IntKind.u64 ((hi p : Nat) : Int)] 28)) 28 #[Value.int IntKind.u64 0, Value.int IntKind.u64 0]
    rwa [World.size_alloc] at this
  have HF : Hid (Foot (fun _ => False) w wd) := Lib.hid (by rw [← hwd]; exact ((Foot.refl _ w).alloc _).alloc _)
  clear hwd C'
  have c0 : wd.cell? ⟨w.heap.size, 0, none⟩ = some (.int .u64 (lo p : Nat)) := A0.cell 0
  have c1 : wd.cell? ⟨w.heap.size, 1, none⟩ = some (.int .u64 (hi p : Nat)) := A0.cell 1
  have d0 : wd.cell? ⟨w.heap.size + 1, 0, none⟩ = some (.int .u64 0) := A1.cell 0
  have d1 : wd.cell? ⟨w.heap.size + 1, 1, none⟩ = some (.int .u64 0) := A1.cell 1
  have f0 := A0.free 0
  have f1 := A0.free 1
  have g0 := A1.free 0
  have g1 := A1.free 1
  clear A0 A1
  have q1 : IntKind.i64.wrap ((i : Int) / 64) = 0 := by rw [IntKind.wrap_i64]; omega
  have q2 : (i : Int).tmod 64 = i := by rw [Int.tmod_eq_emod_of_nonneg (by omega)]; omega
  go_still_tail 11, (by kernel_rfl)
  change wpList _ _ _ _ _ wd.drew
  go_wp2_with fail
  refine bodyPost_ret (v := .agg #[.int .u64 (lo (delP p i) : Nat), .int .u64 (hi (delP p i) : Nat)]) (by simp [results, Tryd.results24, go_sem, *]; exact HO.out) rfl ⟨rfl, ?_⟩
  exact (((HF.out.setNew _ _ (by omega) _).setNew _ _ (by omega) _).setNew _ _ (by omega) _).drew

theorem Without_hi (p : Nat → Bool) (i : Nat) (w : World) (h1 : 64 ≤ i) (h : i < 128) :
    Calls Tryd.prog 24 #[.agg #[.int .u64 (lo p : Nat), .int .u64 (hi p : Nat)], .int .i64 i] w fun e w' => e = .returned (.agg #[.int .u64 (lo (delP p i) : Nat), .int .u64 (hi (delP p i) : Nat)]) ∧ Foot (fun _ => False) w w' := by
  have e : decide (0 ≤ (i : Int) ∧ (i : Int) < 128) = true := decide_eq_true ⟨by omega, by omega⟩
  have C := fun w => fits i w (by omega)
  rw [e] at C
  have C' := Lib.hid C
  clear C e
  have hb : 2 ^ (i - 64) < 18446744073709551616 := Nat.pow_lt_pow_right (a := 2) (n := 64) (by omega) (by omega)
  have q3 : bits .andNot .u64 (hi p : Nat) (IntKind.u64.wrap (2 ^ (i - 64))) = (hi (delP p i) : Nat) := by
    have h2 : (2 ^ (i - 64) : Int) = ((2 ^ (i - 64) : Nat) : Int) := by simp
    rw [h2, wrap_nat _ hb, u64_andNot_nat _ _ (hi_lt p) hb, (del_hi h1 h (p := p)).1]
  have HO := Lib.hid (congrArg (fun n : Nat => (n : Int)) (del_hi h1 h (p := p)).2)
  clear hb
  go_enter Tryd.func24, Tryd.ntmps24
  go_wp2_with fail
  refine (C'.out _).mono ?_
  rintro e w1 ⟨rfl, rfl⟩
  go_wp2_with fail
  obtain ⟨wd, hwd⟩ : ∃ wd, ((w.alloc (Obj.cells #[Value.int IntKind.u64 ((lo p : Nat) : Int), Value.int IntKind.u64 ((hi p : Nat) : Int)] 28)).alloc (Obj.cells #[Value.int IntKind.u64 0, Value.int IntKind.u64 0] 28)) = wd := ⟨_, rfl⟩
  rw [hwd]
  have A0 : At wd w.heap.size 28 #[Value.int IntKind.u64 ((lo p : Nat) : Int), Value.int IntKind.u64 ((hi p : Nat) : Int)] := by rw [← hwd]; exact (At.new _ _ _).alloc _
  have A1 : At wd (w.heap.size + 1) 28 #[Value.int IntKind.u64 0, Value.int IntKind.u64 0] := by
    rw [← hwd]
    have := At.new (w.alloc (Obj.cells #[Value.int IntKind.u64 ((lo p : Nat) : Int), Value.int IntKind.u64 ((hi p : Nat) : Int)] 28)) 28 #[Value.int IntKind.u64 0, Value.int IntKind.u64 0]
    rwa [World.size_alloc] at this
  have HF : Hid (Foot (fun _ => False) w wd) := Lib.hid (by rw [← hwd]; exact ((Foot.refl _ w).alloc _).alloc _)
  clear hwd C'
  have c0 : wd.cell? ⟨w.heap.size, 0, none⟩ = some (.int .u64 (lo p : Nat)) := A0.cell 0
  have c1 : wd.cell? ⟨w.heap.size, 1, none⟩ = some (.int .u64 (hi p : Nat)) := A0.cell 1
  have d0 : wd.cell? ⟨w.heap.size + 1, 0, none⟩ = some (.int .u64 0) := A1.cell 0
  have d1 : wd.cell? ⟨w.heap.size + 1, 1, none⟩ = some (.int .u64 0) := A1.cell 1
  have f0 := A0.free 0
  have f1 := A0.free 1
  have g0 := A1.free 0
  have g1 := A1.free 1
  clear A0 A1
  have q1 : IntKind.i64.wrap ((i : Int) / 64) = 1 := by rw [IntKind.wrap_i64]; omega
  have q2 : (i : Int).tmod 64 = ((i - 64 : Nat) : Int) := by rw [Int.tmod_eq_emod_of_nonneg (by omega)]; omega
  go_still_tail 11, (by kernel_rfl)
  change wpList _ _ _ _ _ wd.drew
  go_wp2_with fail
  refine bodyPost_ret (v := .agg #[.int .u64 (lo (delP p i) : Nat), .int .u64 (hi (delP p i) : Nat)]) (by simp [results, Tryd.results24, go_sem, *]; exact HO.out) rfl ⟨rfl, ?_⟩
  exact (((HF.out.setNew _ _ (by omega) _).setNew _ _ (by omega) _).setNew _ _ (by omega) _).drew

theorem Without_out (p : Nat → Bool) (i : Int) (w : World) (hi' : -9223372036854775808 ≤ i ∧ i ≤ 9223372036854775807) (h : ¬ (0 ≤ i ∧ i < 128)) :
    Calls Tryd.prog 24 #[.agg #[.int .u64 (lo p : Nat), .int .u64 (hi p : Nat)], .int .i64 i] w fun e w' => e = .returned (.agg #[.int .u64 (lo (delP p i) : Nat), .int .u64 (hi (delP p i) : Nat)]) ∧ Foot (fun _ => False) w w' := by
  rw [lo_congr (del_out (p := p) h), hi_congr (del_out (p := p) h)]
  have C := fun w => fits i w hi'
  rw [decide_eq_false h] at C
  have C' := Lib.hid C
  clear C h hi'
  go_enter Tryd.func24, Tryd.ntmps24
  go_wp2_with fail
  refine (C'.out _).mono ?_
  rintro e w1 ⟨rfl, rfl⟩
  go_wp2_with fail
  refine bodyPost_ret (v := .agg #[.int .u64 (lo p : Nat), .int .u64 (hi p : Nat)]) (by simp [results, Tryd.results24, go_sem]) rfl ⟨rfl, ?_⟩
  exact ((Foot.refl (fun _ => False) w).alloc _).alloc _
/-- Whatever the number. -/
theorem Without (p : Nat → Bool) (i : Int) (w : World) (hi' : -9223372036854775808 ≤ i ∧ i ≤ 9223372036854775807) :
    Calls Tryd.prog 24 #[.agg #[.int .u64 (lo p : Nat), .int .u64 (hi p : Nat)], .int .i64 i] w fun e w' => e = .returned (.agg #[.int .u64 (lo (delP p i) : Nat), .int .u64 (hi (delP p i) : Nat)]) ∧ Foot (fun _ => False) w w' := by
  by_cases h : 0 ≤ i ∧ i < 128
  · obtain ⟨n, rfl⟩ : ∃ n : Nat, i = n := ⟨i.toNat, by omega⟩
    rcases Nat.lt_or_ge n 64 with h2 | h2
    · exact Without_lo p n w h2
    · exact Without_hi p n w h2 (by omega)
  · exact Without_out p i w hi' h

theorem Or (p q : Nat → Bool) (w : World) :
    Calls Tryd.prog 17 #[.agg #[.int .u64 (lo p : Nat), .int .u64 (hi p : Nat)], .agg #[.int .u64 (lo q : Nat), .int .u64 (hi q : Nat)]] w fun e w' => e = .returned (.agg #[.int .u64 (lo (orP p q) : Nat), .int .u64 (hi (orP p q) : Nat)]) ∧ Foot (fun _ => False) w w' := by
  have q1 : bits .or .u64 (lo p : Nat) (lo q : Nat) = (lo (orP p q) : Nat) := by rw [u64_or_nat _ _ (lo_lt p) (lo_lt q), lo_or]
  have q2 : bits .or .u64 (hi p : Nat) (hi q : Nat) = (hi (orP p q) : Nat) := by rw [u64_or_nat _ _ (hi_lt p) (hi_lt q), hi_or]
  go_enter Tryd.func17, Tryd.ntmps17
  go_wp2_with fail
  go_loopw [9] (fun i wr => ((i = .int .i64 0 ∧ At wr w.heap.size 28 #[Value.int IntKind.u64 ((lo p : Nat) : Int), Value.int IntKind.u64 ((hi p : Nat) : Int)]) ∨ (i = .int .i64 1 ∧ At wr w.heap.size 28 #[Value.int IntKind.u64 ((lo (orP p q) : Nat) : Int), Value.int IntKind.u64 ((hi p : Nat) : Int)]) ∨ (i = .int .i64 2 ∧ At wr w.heap.size 28 #[Value.int IntKind.u64 ((lo (orP p q) : Nat) : Int), Value.int IntKind.u64 ((hi (orP p q) : Nat) : Int)])) ∧ At wr (w.heap.size + 2) 28 #[Value.int IntKind.u64 0, Value.int IntKind.u64 0] ∧ Foot (fun _ => False) w wr) (fun i _ => 2 - (intOf i).toNat)
  case atStart =>
    refine ⟨.inl ⟨rfl, ((At.new _ _ _).alloc _).alloc _⟩, ?_, (((Foot.refl _ w).alloc _).alloc _).alloc _⟩
    have := At.new ((w.alloc (Obj.cells #[Value.int IntKind.u64 ((lo p : Nat) : Int), Value.int IntKind.u64 ((hi p : Nat) : Int)] 28)).alloc (Obj.cells #[Value.int IntKind.u64 ((lo q : Nat) : Int), Value.int IntKind.u64 ((hi q : Nat) : Int)] 28)) 28 #[Value.int IntKind.u64 0, Value.int IntKind.u64 0]
    simp only [World.size_alloc] at this
    exact this
  case round =>
    obtain ⟨h3, hA2, hF⟩ := hrel
    have d0 : wr.cell? ⟨w.heap.size + 2, 0, none⟩ = some (.int .u64 0) := hA2.cell 0
    have d1 : wr.cell? ⟨w.heap.size + 2, 1, none⟩ = some (.int .u64 0) := hA2.cell 1
    have g0 := hA2.free 0
    have g1 := hA2.free 1
    have HF := Lib.hid hF; clear hF
    have HA2 := Lib.hid hA2; clear hA2
    rcases h3 with ⟨rfl, hA⟩ | ⟨rfl, hA⟩ | ⟨rfl, hA⟩
    · have c0 : wr.cell? ⟨w.heap.size, 0, none⟩ = some (.int .u64 (lo p : Nat)) := hA.cell 0
      have c1 : wr.cell? ⟨w.heap.size, 1, none⟩ = some (.int .u64 (hi p : Nat)) := hA.cell 1
      have f0 := hA.free 0
      have f1 := hA.free 1
      have HA := Lib.hid hA; clear hA
      go_wp2_with (with_reducible refine wpList_index rfl (.tmp 8) (.tmp 9) 26 rfl _ _ _ rfl rfl (idx0 _ _ _) ?_)
      go_roundw
      case rel => exact ⟨.inr (.inl ⟨rfl, HA.out.set 0 _⟩), HA2.out.setOther (by simp) _, HF.out.setNew _ _ (by omega) _⟩
      case measure => simp [intOf]
    · have c0 : wr.cell? ⟨w.heap.size, 0, none⟩ = some (.int .u64 (lo (orP p q) : Nat)) := hA.cell 0
      have c1 : wr.cell? ⟨w.heap.size, 1, none⟩ = some (.int .u64 (hi p : Nat)) := hA.cell 1
      have f0 := hA.free 0
      have f1 := hA.free 1
      have HA := Lib.hid hA; clear hA
      go_wp2_with (with_reducible refine wpList_index rfl (.tmp 8) (.tmp 9) 26 rfl _ _ _ rfl rfl (idx1 _ _ _) ?_)
      go_roundw
      case rel => exact ⟨.inr (.inr ⟨rfl, HA.out.set 1 _⟩), HA2.out.setOther (by simp) _, HF.out.setNew _ _ (by omega) _⟩
      case measure => simp [intOf]
    · have c0 : wr.cell? ⟨w.heap.size, 0, none⟩ = some (.int .u64 (lo (orP p q) : Nat)) := hA.cell 0
      have c1 : wr.cell? ⟨w.heap.size, 1, none⟩ = some (.int .u64 (hi (orP p q) : Nat)) := hA.cell 1
      have f0 := hA.free 0
      have f1 := hA.free 1
      have HA := Lib.hid hA; clear hA
      go_wp2_with fail
      refine bodyPost_ret (v := .agg #[.int .u64 (lo (orP p q) : Nat), .int .u64 (hi (orP p q) : Nat)]) (by simp [results, Tryd.results17, go_sem, *]) rfl ⟨rfl, ?_⟩
      exact (HF.out.setNew _ _ (by omega) _).setNew _ _ (by omega) _

theorem And (p q : Nat → Bool) (w : World) :
    Calls Tryd.prog 19 #[.agg #[.int .u64 (lo p : Nat), .int .u64 (hi p : Nat)], .agg #[.int .u64 (lo q : Nat), .int .u64 (hi q : Nat)]] w fun e w' => e = .returned (.agg #[.int .u64 (lo (andP p q) : Nat), .int .u64 (hi (andP p q) : Nat)]) ∧ Foot (fun _ => False) w w' := by
  have q1 : bits .and .u64 (lo p : Nat) (lo q : Nat) = (lo (andP p q) : Nat) := by rw [u64_and_nat _ _ (lo_lt p) (lo_lt q), lo_and]
  have q2 : bits .and .u64 (hi p : Nat) (hi q : Nat) = (hi (andP p q) : Nat) := by rw [u64_and_nat _ _ (hi_lt p) (hi_lt q), hi_and]
  go_enter Tryd.func19, Tryd.ntmps19
  go_wp2_with fail
  go_loopw [9] (fun i wr => ((i = .int .i64 0 ∧ At wr w.heap.size 28 #[Value.int IntKind.u64 ((lo p : Nat) : Int), Value.int IntKind.u64 ((hi p : Nat) : Int)]) ∨ (i = .int .i64 1 ∧ At wr w.heap.size 28 #[Value.int IntKind.u64 ((lo (andP p q) : Nat) : Int), Value.int IntKind.u64 ((hi p : Nat) : Int)]) ∨ (i = .int .i64 2 ∧ At wr w.heap.size 28 #[Value.int IntKind.u64 ((lo (andP p q) : Nat) : Int), Value.int IntKind.u64 ((hi (andP p q) : Nat) : Int)])) ∧ At wr (w.heap.size + 2) 28 #[Value.int IntKind.u64 0, Value.int IntKind.u64 0] ∧ Foot (fun _ => False) w wr) (fun i _ => 2 - (intOf i).toNat)
  case atStart =>
    refine ⟨.inl ⟨rfl, ((At.new _ _ _).alloc _).alloc _⟩, ?_, (((Foot.refl _ w).alloc _).alloc _).alloc _⟩
    have := At.new ((w.alloc (Obj.cells #[Value.int IntKind.u64 ((lo p : Nat) : Int), Value.int IntKind.u64 ((hi p : Nat) : Int)] 28)).alloc (Obj.cells #[Value.int IntKind.u64 ((lo q : Nat) : Int), Value.int IntKind.u64 ((hi q : Nat) : Int)] 28)) 28 #[Value.int IntKind.u64 0, Value.int IntKind.u64 0]
    simp only [World.size_alloc] at this
    exact this
  case round =>
    obtain ⟨h3, hA2, hF⟩ := hrel
    have d0 : wr.cell? ⟨w.heap.size + 2, 0, none⟩ = some (.int .u64 0) := hA2.cell 0
    have d1 : wr.cell? ⟨w.heap.size + 2, 1, none⟩ = some (.int .u64 0) := hA2.cell 1
    have g0 := hA2.free 0
    have g1 := hA2.free 1
    have HF := Lib.hid hF; clear hF
    have HA2 := Lib.hid hA2; clear hA2
    rcases h3 with ⟨rfl, hA⟩ | ⟨rfl, hA⟩ | ⟨rfl, hA⟩
    · have c0 : wr.cell? ⟨w.heap.size, 0, none⟩ = some (.int .u64 (lo p : Nat)) := hA.cell 0
      have c1 : wr.cell? ⟨w.heap.size, 1, none⟩ = some (.int .u64 (hi p : Nat)) := hA.cell 1
      have f0 := hA.free 0
      have f1 := hA.free 1
      have HA := Lib.hid hA; clear hA
      go_wp2_with (with_reducible refine wpList_index rfl (.tmp 8) (.tmp 9) 26 rfl _ _ _ rfl rfl (idx0 _ _ _) ?_)
      go_roundw
      case rel => exact ⟨.inr (.inl ⟨rfl, HA.out.set 0 _⟩), HA2.out.setOther (by simp) _, HF.out.setNew _ _ (by omega) _⟩
      case measure => simp [intOf]
    · have c0 : wr.cell? ⟨w.heap.size, 0, none⟩ = some (.int .u64 (lo (andP p q) : Nat)) := hA.cell 0
      have c1 : wr.cell? ⟨w.heap.size, 1, none⟩ = some (.int .u64 (hi p : Nat)) := hA.cell 1
      have f0 := hA.free 0
      have f1 := hA.free 1
      have HA := Lib.hid hA; clear hA
      go_wp2_with (with_reducible refine wpList_index rfl (.tmp 8) (.tmp 9) 26 rfl _ _ _ rfl rfl (idx1 _ _ _) ?_)
      go_roundw
      case rel => exact ⟨.inr (.inr ⟨rfl, HA.out.set 1 _⟩), HA2.out.setOther (by simp) _, HF.out.setNew _ _ (by omega) _⟩
      case measure => simp [intOf]
    · have c0 : wr.cell? ⟨w.heap.size, 0, none⟩ = some (.int .u64 (lo (andP p q) : Nat)) := hA.cell 0
      have c1 : wr.cell? ⟨w.heap.size, 1, none⟩ = some (.int .u64 (hi (andP p q) : Nat)) := hA.cell 1
      have f0 := hA.free 0
      have f1 := hA.free 1
      have HA := Lib.hid hA; clear hA
      go_wp2_with fail
      refine bodyPost_ret (v := .agg #[.int .u64 (lo (andP p q) : Nat), .int .u64 (hi (andP p q) : Nat)]) (by simp [results, Tryd.results19, go_sem, *]) rfl ⟨rfl, ?_⟩
      exact (HF.out.setNew _ _ (by omega) _).setNew _ _ (by omega) _

theorem Not (p q : Nat → Bool) (w : World) :
    Calls Tryd.prog 21 #[.agg #[.int .u64 (lo p : Nat), .int .u64 (hi p : Nat)], .agg #[.int .u64 (lo q : Nat), .int .u64 (hi q : Nat)]] w fun e w' => e = .returned (.agg #[.int .u64 (lo (notP p q) : Nat), .int .u64 (hi (notP p q) : Nat)]) ∧ Foot (fun _ => False) w w' := by
  have q1 : bits .andNot .u64 (lo p : Nat) (lo q : Nat) = (lo (notP p q) : Nat) := by rw [u64_andNot_nat _ _ (lo_lt p) (lo_lt q), lo_not]
  have q2 : bits .andNot .u64 (hi p : Nat) (hi q : Nat) = (hi (notP p q) : Nat) := by rw [u64_andNot_nat _ _ (hi_lt p) (hi_lt q), hi_not]
  go_enter Tryd.func21, Tryd.ntmps21
  go_wp2_with fail
  go_loopw [9] (fun i wr => ((i = .int .i64 0 ∧ At wr w.heap.size 28 #[Value.int IntKind.u64 ((lo p : Nat) : Int), Value.int IntKind.u64 ((hi p : Nat) : Int)]) ∨ (i = .int .i64 1 ∧ At wr w.heap.size 28 #[Value.int IntKind.u64 ((lo (notP p q) : Nat) : Int), Value.int IntKind.u64 ((hi p : Nat) : Int)]) ∨ (i = .int .i64 2 ∧ At wr w.heap.size 28 #[Value.int IntKind.u64 ((lo (notP p q) : Nat) : Int), Value.int IntKind.u64 ((hi (notP p q) : Nat) : Int)])) ∧ At wr (w.heap.size + 2) 28 #[Value.int IntKind.u64 0, Value.int IntKind.u64 0] ∧ Foot (fun _ => False) w wr) (fun i _ => 2 - (intOf i).toNat)
  case atStart =>
    refine ⟨.inl ⟨rfl, ((At.new _ _ _).alloc _).alloc _⟩, ?_, (((Foot.refl _ w).alloc _).alloc _).alloc _⟩
    have := At.new ((w.alloc (Obj.cells #[Value.int IntKind.u64 ((lo p : Nat) : Int), Value.int IntKind.u64 ((hi p : Nat) : Int)] 28)).alloc (Obj.cells #[Value.int IntKind.u64 ((lo q : Nat) : Int), Value.int IntKind.u64 ((hi q : Nat) : Int)] 28)) 28 #[Value.int IntKind.u64 0, Value.int IntKind.u64 0]
    simp only [World.size_alloc] at this
    exact this
  case round =>
    obtain ⟨h3, hA2, hF⟩ := hrel
    have d0 : wr.cell? ⟨w.heap.size + 2, 0, none⟩ = some (.int .u64 0) := hA2.cell 0
    have d1 : wr.cell? ⟨w.heap.size + 2, 1, none⟩ = some (.int .u64 0) := hA2.cell 1
    have g0 := hA2.free 0
    have g1 := hA2.free 1
    have HF := Lib.hid hF; clear hF
    have HA2 := Lib.hid hA2; clear hA2
    rcases h3 with ⟨rfl, hA⟩ | ⟨rfl, hA⟩ | ⟨rfl, hA⟩
    · have c0 : wr.cell? ⟨w.heap.size, 0, none⟩ = some (.int .u64 (lo p : Nat)) := hA.cell 0
      have c1 : wr.cell? ⟨w.heap.size, 1, none⟩ = some (.int .u64 (hi p : Nat)) := hA.cell 1
      have f0 := hA.free 0
      have f1 := hA.free 1
      have HA := Lib.hid hA; clear hA
      go_wp2_with (with_reducible refine wpList_index rfl (.tmp 8) (.tmp 9) 26 rfl _ _ _ rfl rfl (idx0 _ _ _) ?_)
      go_roundw
      case rel => exact ⟨.inr (.inl ⟨rfl, HA.out.set 0 _⟩), HA2.out.setOther (by simp) _, HF.out.setNew _ _ (by omega) _⟩
      case measure => simp [intOf]
    · have c0 : wr.cell? ⟨w.heap.size, 0, none⟩ = some (.int .u64 (lo (notP p q) : Nat)) := hA.cell 0
      have c1 : wr.cell? ⟨w.heap.size, 1, none⟩ = some (.int .u64 (hi p : Nat)) := hA.cell 1
      have f0 := hA.free 0
      have f1 := hA.free 1
      have HA := Lib.hid hA; clear hA
      go_wp2_with (with_reducible refine wpList_index rfl (.tmp 8) (.tmp 9) 26 rfl _ _ _ rfl rfl (idx1 _ _ _) ?_)
      go_roundw
      case rel => exact ⟨.inr (.inr ⟨rfl, HA.out.set 1 _⟩), HA2.out.setOther (by simp) _, HF.out.setNew _ _ (by omega) _⟩
      case measure => simp [intOf]
    · have c0 : wr.cell? ⟨w.heap.size, 0, none⟩ = some (.int .u64 (lo (notP p q) : Nat)) := hA.cell 0
      have c1 : wr.cell? ⟨w.heap.size, 1, none⟩ = some (.int .u64 (hi (notP p q) : Nat)) := hA.cell 1
      have f0 := hA.free 0
      have f1 := hA.free 1
      have HA := Lib.hid hA; clear hA
      go_wp2_with fail
      refine bodyPost_ret (v := .agg #[.int .u64 (lo (notP p q) : Nat), .int .u64 (hi (notP p q) : Nat)]) (by simp [results, Tryd.results21, go_sem, *]) rfl ⟨rfl, ?_⟩
      exact (HF.out.setNew _ _ (by omega) _).setNew _ _ (by omega) _

end Go.Proofs.YtkoedgmfjpcocaaDoor.Sets
