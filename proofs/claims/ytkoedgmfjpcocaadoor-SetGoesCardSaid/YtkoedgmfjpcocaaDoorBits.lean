/- The contracts of what lies beneath package idset: fits, OnesCount64, TrailingZeros64. -/
import Derived.Test.YtkoedgmfjpcocaaDoorChecked
import Derived.Test.YtkoedgmfjpcocaaDoorMem
import Derived.Test.YtkoedgmfjpcocaaDoorWords
import Derived.Laws.Bits64b
import Derived.Laws.BitsAllLaws
import Derived.Laws.Bits128
import Derived.Lib.Hide
import Derived.StillTailTactics
import Derived.Deep.QuietTactic
import Derived.BigQuiet
namespace Go.Proofs.YtkoedgmfjpcocaaDoor.Sets
open Go.RowKit Mem Words
set_option linter.unusedVariables false

/-- The table of math/bits in its variable. -/
def Tab (w : World) : Prop := 0 < w.heap.size ∧ ∀ j, j < 64 → w.cell? ⟨0, j, none⟩ = some (.int .u8 ((Lib.deBruijn64tab.getD j 0 : Nat) : Int))

theorem fits (i : Int) (w : World) (hi : -9223372036854775808 ≤ i ∧ i ≤ 9223372036854775807) :
    Calls Tryd.prog 28 #[.int .i64 i] w fun e w' => e = .returned (.bool (decide (0 ≤ i ∧ i < 128))) ∧ w = w' := by
  by_cases h : 0 ≤ i
  · by_cases h2 : i < 128
    · have e : decide (0 ≤ i ∧ i < 128) = true := decide_eq_true ⟨h, h2⟩
      rw [e]
      clear e
      go_enter Tryd.func28, Tryd.ntmps28
      go_wp2_with fail
      go_ret
      exact ⟨rfl, rfl⟩
    · have e : decide (0 ≤ i ∧ i < 128) = false := decide_eq_false fun k => h2 k.2
      rw [e]
      clear e
      go_enter Tryd.func28, Tryd.ntmps28
      go_wp2_with fail
      go_ret
      exact ⟨rfl, rfl⟩
  · have e : decide (0 ≤ i ∧ i < 128) = false := decide_eq_false fun k => h k.1
    rw [e]
    clear e
    go_enter Tryd.func28, Tryd.ntmps28
    go_wp2_with fail
    go_ret
    exact ⟨rfl, rfl⟩

theorem m_vals : m1 8 = 6148914691236517205 ∧ m2 8 = 3689348814741910323 ∧ m3 8 = 1085102592571150095 := by decide
theorem wrap_nat (n : Nat) (h : n < 18446744073709551616) : IntKind.u64.wrap (n : Int) = n := by rw [IntKind.wrap_u64]; omega
theorem low7 (n : Nat) (h : n < 18446744073709551616) : bits .and .i64 (wrap64 (n : Int)) 127 = ((n % 128 : Nat) : Int) := by
  rw [i64_and127]
  unfold wrap64
  omega
/-- What the steps of the count come to. -/
theorem ones_steps (x : Nat) (hx : x < 18446744073709551616) : ∃ x1 x2 x3 x4 x5 x6 : Nat,
    IntKind.u64.wrap (bits .and .u64 ((x : Int) / 2) 6148914691236517205 + bits .and .u64 (x : Int) 6148914691236517205) = (x1 : Int) ∧
    IntKind.u64.wrap (bits .and .u64 ((x1 : Int) / 4) 3689348814741910323 + bits .and .u64 (x1 : Int) 3689348814741910323) = (x2 : Int) ∧
    bits .and .u64 (IntKind.u64.wrap ((x2 : Int) / 16 + (x2 : Int))) 1085102592571150095 = (x3 : Int) ∧
    IntKind.u64.wrap ((x3 : Int) + (x3 : Int) / 256) = (x4 : Int) ∧ IntKind.u64.wrap ((x4 : Int) + (x4 : Int) / 65536) = (x5 : Int) ∧ IntKind.u64.wrap ((x5 : Int) + (x5 : Int) / 4294967296) = (x6 : Int) ∧
    bits .and .i64 (wrap64 (x6 : Int)) 127 = ((cnt 64 x : Nat) : Int) := by
  obtain ⟨h1, h2, h3⟩ := m_vals
  obtain ⟨c0, c1, c2, c3, c4, c5, c6, c7, a0, a1, a2, a3, a4, a5, a6, a7, hg, hc⟩ := Words.bytes x hx
  obtain ⟨v4, v5, v6, e4, e5, e6, l4, l5, l6, hv⟩ := fold a0 a1 a2 a3 a4 a5 a6 a7 hg
  have b1 : f1 8 x ≤ 12297829382473034410 := by
    unfold f1
    rw [h1]
    have := Nat.and_le_right (n := x / 2) (m := 6148914691236517205)
    have := Nat.and_le_right (n := x) (m := 6148914691236517205)
    omega
  have b2 : f2 8 (f1 8 x) ≤ 7378697629483820646 := by
    unfold f2
    rw [h2]
    have := Nat.and_le_right (n := f1 8 x / 4) (m := 3689348814741910323)
    have := Nat.and_le_right (n := f1 8 x) (m := 3689348814741910323)
    omega
  refine ⟨f1 8 x, f2 8 (f1 8 x), g 8 x, v4, v5, v6, ?_, ?_, ?_, ?_, ?_, ?_, ?_⟩
  · have q1 := u64_and_nat (x / 2) 6148914691236517205 (by omega) (by omega)
    have q2 := u64_and_nat x 6148914691236517205 hx (by omega)
    rw [Int.natCast_ediv] at q1
    have q1' : bits .and .u64 ((x : Int) / 2) 6148914691236517205 = ((x / 2 &&& 6148914691236517205 : Nat) : Int) := q1
    have q2' : bits .and .u64 (x : Int) 6148914691236517205 = ((x &&& 6148914691236517205 : Nat) : Int) := q2
    rw [q1', q2', IntKind.wrap_u64]
    unfold f1 at b1 ⊢
    rw [h1] at b1 ⊢
    omega
  · generalize f1 8 x = y at b1 b2
    have q1 := u64_and_nat (y / 4) 3689348814741910323 (by omega) (by omega)
    have q2 := u64_and_nat y 3689348814741910323 (by omega) (by omega)
    rw [Int.natCast_ediv] at q1
    have q1' : bits .and .u64 ((y : Int) / 4) 3689348814741910323 = ((y / 4 &&& 3689348814741910323 : Nat) : Int) := q1
    have q2' : bits .and .u64 (y : Int) 3689348814741910323 = ((y &&& 3689348814741910323 : Nat) : Int) := q2
    rw [q1', q2', IntKind.wrap_u64]
    unfold f2 at b2 ⊢
    rw [h2] at b2 ⊢
    omega
  · unfold g
    generalize f2 8 (f1 8 x) = y at b2
    have q1 := u64_and_nat (y / 16 + y) 1085102592571150095 (by omega) (by omega)
    have q2 : IntKind.u64.wrap ((y : Int) / 16 + (y : Int)) = ((y / 16 + y : Nat) : Int) := by rw [IntKind.wrap_u64]; omega
    rw [q2]
    unfold f3
    rw [h3]
    exact q1
  · subst e4; exact wrap_nat _ l4
  · subst e5; exact wrap_nat _ l5
  · subst e6; exact wrap_nat _ l6
  · rw [hc, ← hv]
    clear e4 e5 e6 hg hc hv b1 b2 h1 h2 h3 l4 l5
    exact low7 v6 l6

theorem ones (x : Nat) (w : World) (hx : x < 18446744073709551616) :
    Calls Tryd.prog 27 #[.int .u64 x] w fun e w' => e = .returned (.int .i64 (cnt 64 x : Nat)) ∧ w = w' := by
  obtain ⟨x1, x2, x3, x4, x5, x6, e1, e2, e3, e4, e5, e6, e7⟩ := ones_steps x hx
  generalize hc : ((cnt 64 x : Nat) : Int) = c at e7
  have HC := Lib.hid hc; clear hc hx
  go_enter Tryd.func27, Tryd.ntmps27
  go_wp2_with fail
  go_ret
  exact ⟨rfl, rfl⟩

/-- The place in the table that the product names. -/
theorem tz_place (x a : Nat) (hx : x < 18446744073709551616) (h0 : x ≠ 0) (ha : x &&& (18446744073709551616 - x) = a) :
    IntKind.u64.wrap (bits .and .u64 (x : Int) (IntKind.u64.wrap (-(x : Int))) * 285870213051353865) / 288230376151711744 = ((a * 285870213051353865 % 18446744073709551616 / 288230376151711744 : Nat) : Int) := by
  have h1 : IntKind.u64.wrap (-(x : Int)) = ((18446744073709551616 - x : Nat) : Int) := by rw [IntKind.wrap_u64]; omega
  rw [h1, u64_and_nat x _ hx (by omega), ha, IntKind.wrap_u64]
  omega
theorem tz_zero (w : World) : Calls Tryd.prog 32 #[.int .u64 0] w fun e w' => e = .returned (.int .i64 64) ∧ w = w' := by
  go_enter Tryd.func32, Tryd.ntmps32
  go_wp2_with fail
  go_ret
  exact ⟨rfl, rfl⟩
theorem tz_core (x k idx : Nat) (w : World) (hz : ((x : Int) == 0) = false) (key : IntKind.u64.wrap (bits .and .u64 (x : Int) (IntKind.u64.wrap (-(x : Int))) * 285870213051353865) / 288230376151711744 = (idx : Int))
    (hi : idx < 64) (hk : k < 64) (hcell : w.cell? ⟨0, idx, none⟩ = some (.int .u8 k)) :
    Calls Tryd.prog 32 #[.int .u64 x] w fun e w' => e = .returned (.int .i64 k) ∧ w = w' := by
  go_enter Tryd.func32, Tryd.ntmps32
  go_wp2_with (simp only [key])
  go_ret
  exact ⟨rfl, rfl⟩
theorem tz (x : Nat) (w : World) (hx : x < 18446744073709551616) (hT : Tab w) :
    Calls Tryd.prog 32 #[.int .u64 x] w fun e w' => e = .returned (.int .i64 (Lib.ctz 64 x : Nat)) ∧ w = w' := by
  by_cases h0 : x = 0
  · subst h0
    exact tz_zero w
  · obtain ⟨hlow, hk⟩ := Lib.lowest_bit 64 x h0 hx
    obtain ⟨hi, htab⟩ := Lib.deBruijn64_at _ hk
    have hcell := hT.2 _ hi
    rw [htab] at hcell
    exact tz_core x _ _ w (by simp; omega) (tz_place x _ hx h0 hlow) hi hk hcell

end Go.Proofs.YtkoedgmfjpcocaaDoor.Sets
