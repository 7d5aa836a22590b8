/- The reference's Reserved: a row of words in memory. -/
import Derived.Test.YtdibkgjldmepcaaDoorLexW
import Derived.Deep.WholeRow
namespace Go.Proofs.YtdibkgjldmepcaaDoor.Lex
open Go.RowKit Mem
set_option linter.unusedVariables false

def noWords : Array Value := #[.string ⟨#[]⟩, .string ⟨#[]⟩, .string ⟨#[]⟩, .string ⟨#[]⟩, .string ⟨#[]⟩, .string ⟨#[]⟩, .string ⟨#[]⟩, .string ⟨#[]⟩, .string ⟨#[]⟩, .string ⟨#[]⟩, .string ⟨#[]⟩, .string ⟨#[]⟩, .string ⟨#[]⟩, .string ⟨#[]⟩, .string ⟨#[]⟩, .string ⟨#[]⟩, .string ⟨#[]⟩, .string ⟨#[]⟩, .string ⟨#[]⟩, .string ⟨#[]⟩, .string ⟨#[]⟩, .string ⟨#[]⟩, .string ⟨#[]⟩, .string ⟨#[]⟩, .string ⟨#[]⟩, .string ⟨#[]⟩, .string ⟨#[]⟩, .string ⟨#[]⟩, .string ⟨#[]⟩, .string ⟨#[]⟩, .string ⟨#[]⟩, .string ⟨#[]⟩, .string ⟨#[]⟩, .string ⟨#[]⟩, .string ⟨#[]⟩]
set_option maxHeartbeats 1000000 in
set_option maxRecDepth 10000 in
theorem rreserved_c (s : ByteArray) (w : World) : Calls Tryd.prog 60 #[.string s] w fun e w' => e = .returned (.bool (reserved (bs s))) ∧ Foot (fun _ => False) w w' := by
  have HA0 := Lib.hid (setRow_heap (w.alloc (.cells noWords 105)) w.heap.size noWords wordsC 105 (0, 0) (heap_alloc_new w _))
  have HF0 := Lib.hid (((Foot.refl (fun _ => False) w).alloc (.cells noWords 105)).setRow (g := w.heap.size) (fun h => absurd h (Nat.lt_irrefl _)) wordsC)
  go_enter Tryd.func60, Tryd.ntmps60
  go_wp2_with (refine wpList_store_row rfl 105 (.tmp 3) (.tmp 5) rfl w.heap.size wordsC rfl rfl 105 noWords (heap_alloc_new w _) (by kernel_rfl) rfl (by kernel_rfl) ?_)
  generalize hW : (w.alloc (.cells noWords 105)).setRow w.heap.size wordsC = W1 at HA0 HF0
  go_loopw [4] (fun v wr => ∃ k : Nat, v = .int .i64 k ∧ k ≤ 35 ∧ Hid ((wordsL.take k).contains (bs s) = false) ∧ wr = W1) (fun v _ => 35 - (intOf v).toNat)
  case atStart => exact ⟨0, rfl, by omega, Lib.hid rfl, hW⟩
  case round =>
    clear hW
    obtain ⟨k, rfl, hk, HN, rfl⟩ := hrel
    by_cases hlt : k < 35
    · obtain ⟨z, hz, hc⟩ := words_get k hlt
      have hc2 : wr.cell? ⟨w.heap.size, k, none⟩ = wordsC[k]? := At.cell HA0.out k
      rw [hc] at hc2
      have hst := words_step (l := bs s) hlt
      rw [HN.out, Bool.false_or, ← hz] at hst
      by_cases h4 : bs s = bs z
      · have e1 : (z.toList == s.toList) = true := by rw [toList_bs, toList_bs, h4]; exact beq_self_eq_true _
        have HR := Lib.hid (show reserved (bs s) = true by
          rw [h4, beq_self_eq_true] at hst
          rw [h4]
          exact List.contains_iff_mem.2 (List.mem_of_mem_take (List.contains_iff_mem.1 hst)))
        clear hst h4 hc hz
        go_wp2_with fail
        go_ret
        rw [HR.out]
        exact ⟨rfl, HF0.out⟩
      · have e1 : (z.toList == s.toList) = false := by rw [beq_eq_false_iff_ne, toList_bs, toList_bs]; exact fun h => h4 h.symm
        have HN2 := Lib.hid (hst.trans (beq_eq_false_iff_ne.2 h4))
        clear hst h4 hc hz
        go_wp2_with fail
        refine ⟨⟨k + 1, by go_num, by omega, HN2, trivial⟩, ?_⟩
        simp only [intOf]
        omega
    · obtain rfl : k = 35 := by omega
      have HR : Hid (reserved (bs s) = false) := HN
      clear HN hlt hk
      go_wp2_with fail
      go_ret
      rw [HR.out]
      exact ⟨rfl, HF0.out⟩
end Go.Proofs.YtdibkgjldmepcaaDoor.Lex
