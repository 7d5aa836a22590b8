/- Numbers as text, the levels and the signs of expressions (cotillionref7). -/
import Derived.Test.YtdibkgjldmepcaaDoorLexG
import Derived.Test.YtdibkgjldmepcaaDoorGenA
namespace Go.Proofs.YtdibkgjldmepcaaDoor.Gen
open Go.RowKit Mem Lex
set_option linter.unusedVariables false

/-- A number's decimal text. -/
def decT (n : Int) : Bytes := if n < 0 then 45 :: dgs (-n).toNat else dgs n.toNat
def decS (n : Int) : ByteArray := ⟨(decT n).toArray⟩
theorem decS_size {n : Int} (h0 : -9 ≤ n) (h : n ≤ 9223372036854775807) : (decS n).size ≤ 19 := by
  have h2 : (bs (decS n)).length = (decS n).size := bs_len _
  rw [← h2]
  show (decT n).length ≤ 19
  unfold decT
  split
  · have := dgs_len 1 (-n).toNat (by omega) (by omega)
    simp; omega
  · exact dgs_len 19 n.toNat (by omega) (by omega)

set_option maxHeartbeats 1000000 in
theorem dec_nat : ∀ (m k : Nat) (w : World), k < m → k ≤ 9223372036854775807 → Calls Tryd.prog 27 #[.int .i64 k] w fun e w' => e = .returned (.string (zS k)) ∧ ∃ d, w' = w.drewN d := by
  intro m
  induction m with
  | zero => intro k w hk _; exact absurd hk (by omega)
  | succ m ih =>
    intro k w hk hmax
    by_cases hlt : k < 10
    · obtain ⟨q, h1, h2, hq⟩ := digit_piece k hlt
      have hz : zS k = q := by unfold zS; rw [bs_inj h1, dgs_lt hlt]
      have hq := fun W => hq W ((k : Int) + 1) rfl
      rw [hz]
      clear ih hz h1
      go_enter Tryd.func27, Tryd.ntmps27
      go_wp2_with fail
      go_ret
      exact ⟨rfl, 0, rfl⟩
    · obtain ⟨q, h1, h2, hq⟩ := digit_piece (k % 10) (by omega)
      have hz : zS k = zS (k / 10) ++ q := by
        have h3 : bs (zS (k / 10) ++ q) = dgs k := by rw [bs_append, h1, dgs_ge hlt]; rfl
        rw [bs_inj h3]; rfl
      have hq := fun W => hq W (((k % 10 : Nat) : Int) + 1) rfl
      have ih2 := fun W => ih (k / 10) W (by omega) (by omega)
      have HZ := Lib.hid hz
      rw [hz]
      have e1 : ((k : Int) / 10) = ((k / 10 : Nat) : Int) := by omega
      have e2 : ((k : Int) % 10) = ((k % 10 : Nat) : Int) := by omega
      have e3 : ((k : Int).tmod 10) = ((k % 10 : Nat) : Int) := by rw [Int.tmod_eq_emod_of_nonneg (by omega)]; omega
      have e4 : ((k : Int).tdiv 10) = ((k / 10 : Nat) : Int) := by rw [Int.tdiv_eq_ediv_of_nonneg (by omega)]; omega
      have hk10 : k % 10 < 10 := by omega
      have hka : k / 10 ≤ 922337203685477580 := by omega
      generalize k / 10 = a at *
      generalize k % 10 = d at *
      have hwa : IntKind.i64.wrap (a : Int) = a := by rw [IntKind.wrap_i64]; omega
      have hzl : ¬ 9223372036854775807 < (zS a).size + 1 := by have := zS_size (k := a) (by omega); omega
      have hwd : IntKind.i64.wrap ((d : Int) + 1) = d + 1 := by rw [IntKind.wrap_i64]; omega
      clear ih hz h1
      go_enter Tryd.func27, Tryd.ntmps27
      go_wp2_with fail
      go_quiet (first | (go_at_call 27; with_reducible refine (ih2 _).mono ?_; rintro e w'' ⟨he, m, hm⟩; exact ⟨he, _, hm.trans (World.drewN_drewN ..)⟩))
      go_wp2_with fail
      go_ret
      exact ⟨rfl, _, rfl⟩
theorem dec_neg (k : Nat) (w : World) (h1 : 1 ≤ k) (h9 : k ≤ 9) : Calls Tryd.prog 27 #[.int .i64 (-(k : Int))] w fun e w' => e = .returned (.string (decS (-(k : Int)))) ∧ ∃ d, w' = w.drewN d := by
  obtain ⟨q, g1, g2, hq⟩ := digit_piece k (by omega)
  have hz : decS (-(k : Int)) = ⟨#[45]⟩ ++ q := by
    have h3 : bs (⟨#[45]⟩ ++ q) = decT (-(k : Int)) := by
      unfold decT
      rw [bs_append, g1, if_pos (by omega), show (- -(k : Int)).toNat = k by omega, dgs_lt (by omega)]
      rfl
    rw [bs_inj h3]; rfl
  have hq := fun W => hq W ((k : Int) + 1) rfl
  have e1 : IntKind.i64.wrap (k : Int) = k := by rw [IntKind.wrap_i64]; omega
  rw [hz]
  clear hz g1
  go_enter Tryd.func27, Tryd.ntmps27
  go_wp2_with fail
  go_ret
  exact ⟨rfl, 0, rfl⟩
theorem dec_c (n : Int) (w : World) (h0 : -9 ≤ n) (h1 : n ≤ 9223372036854775807) : Calls Tryd.prog 27 #[.int .i64 n] w fun e w' => e = .returned (.string (decS n)) ∧ ∃ d, w' = w.drewN d := by
  by_cases hn : n < 0
  · have h := dec_neg (-n).toNat w (by omega) (by omega)
    rwa [show -(((-n).toNat : Nat) : Int) = n by omega] at h
  · have h := dec_nat (n.toNat + 1) n.toNat w (by omega) (by omega)
    rw [show ((n.toNat : Nat) : Int) = n by omega] at h
    have hz : decS n = zS n.toNat := by unfold decS decT zS; rw [if_neg hn]
    rw [hz]
    exact h
theorem decF_c (n : Int) (w : World) (h0 : -9 ≤ n) (h1 : n ≤ 9223372036854775807) : Calls Tryd.prog 27 #[.int .i64 n] w fun e w' => e = .returned (.string (decS n)) ∧ Foot (fun _ => False) w w' :=
  (dec_c n w h0 h1).mono fun e w' ⟨h1, d, h2⟩ => ⟨h1, by rw [h2]; exact (Foot.refl _ w).drewN d⟩

/-- How tight an expression's sign binds. -/
def lev (k : Int) : Int := if k = 19 then 1 else if k = 18 then 2 else if 12 ≤ k ∧ k ≤ 17 then 3 else if k = 10 ∨ k = 11 then 4 else if k = 7 ∨ k = 8 ∨ k = 9 then 5 else if k = 5 ∨ k = 6 then 6 else 7
theorem level_c (k : Int) (w : World) (h0 : 1 ≤ k) (h1 : k ≤ 19) : Calls Tryd.prog 26 #[.int .i64 k] w fun e w' => e = .returned (.int .i64 (lev k)) ∧ w' = w := by
  go_enter Tryd.func26, Tryd.ntmps26
  go_wp2_with fail
  all_goals go_ret
  all_goals refine ⟨congrArg (fun x => Ending.returned (Value.int .i64 x)) ?_, rfl⟩
  all_goals simp only [beq_iff_eq, beq_eq_false_iff_ne, ne_eq] at *
  all_goals unfold lev
  all_goals repeat' split
  all_goals first | omega | rfl
def opL : List Bytes := [[], [], [], [], [], [45], [33], [42], [47], [37], [43], [45], [60], [60, 61], [62], [62, 61], [61, 61], [33, 61], [38, 38], [124, 124]]
def opC : Array Value := #[.string ⟨#[]⟩, .string ⟨#[]⟩, .string ⟨#[]⟩, .string ⟨#[]⟩, .string ⟨#[]⟩, .string ⟨#[45]⟩, .string ⟨#[33]⟩, .string ⟨#[42]⟩, .string ⟨#[47]⟩, .string ⟨#[37]⟩, .string ⟨#[43]⟩, .string ⟨#[45]⟩, .string ⟨#[60]⟩, .string ⟨#[60, 61]⟩, .string ⟨#[62]⟩, .string ⟨#[62, 61]⟩, .string ⟨#[61, 61]⟩, .string ⟨#[33, 61]⟩, .string ⟨#[38, 38]⟩, .string ⟨#[124, 124]⟩]
def noOps : Array Value := #[.string ⟨#[]⟩, .string ⟨#[]⟩, .string ⟨#[]⟩, .string ⟨#[]⟩, .string ⟨#[]⟩, .string ⟨#[]⟩, .string ⟨#[]⟩, .string ⟨#[]⟩, .string ⟨#[]⟩, .string ⟨#[]⟩, .string ⟨#[]⟩, .string ⟨#[]⟩, .string ⟨#[]⟩, .string ⟨#[]⟩, .string ⟨#[]⟩, .string ⟨#[]⟩, .string ⟨#[]⟩, .string ⟨#[]⟩, .string ⟨#[]⟩, .string ⟨#[]⟩]
def opT (k : Int) : Bytes := opL.getD k.toNat []
def opS (k : Int) : ByteArray := ⟨(opT k).toArray⟩
theorem op_get (k : Nat) (h : k < 20) : opC[k]? = some (.string (opS k)) := by
  match k, h with
  | 0, _ | 1, _ | 2, _ | 3, _ | 4, _ | 5, _ | 6, _ | 7, _ | 8, _ | 9, _ => rfl
  | 10, _ | 11, _ | 12, _ | 13, _ | 14, _ | 15, _ | 16, _ | 17, _ | 18, _ | 19, _ => rfl
  | (n + 20), h => exact absurd h (by omega)
set_option maxHeartbeats 1000000 in
theorem text_c (k : Nat) (w : World) (h : k < 20) : Calls Tryd.prog 28 #[.int .i64 k] w fun e w' => e = .returned (.string (opS k)) ∧ Foot (fun _ => False) w w' := by
  have HA0 := setRow_heap (w.alloc (.cells noOps 88)) w.heap.size noOps opC 88 (0, 0) (heap_alloc_new w _)
  have HF0 := Lib.hid (((Foot.refl (fun _ => False) w).alloc (.cells noOps 88)).setRow (g := w.heap.size) (fun h => absurd h (Nat.lt_irrefl _)) opC)
  have hc : ((w.alloc (.cells noOps 88)).setRow w.heap.size opC).cell? ⟨w.heap.size, k, none⟩ = some (.string (opS k)) := (At.cell HA0 k).trans (op_get k h)
  clear HA0
  unfold noOps at hc HF0
  go_enter Tryd.func28, Tryd.ntmps28
  go_wp2_with (refine wpList_store_row rfl 88 (.tmp 3) (.tmp 4) rfl w.heap.size opC rfl rfl 88 noOps (heap_alloc_new w _) (by kernel_rfl) rfl (by kernel_rfl) ?_)
  go_ret
  exact ⟨rfl, HF0.out⟩
end Go.Proofs.YtdibkgjldmepcaaDoor.Gen
