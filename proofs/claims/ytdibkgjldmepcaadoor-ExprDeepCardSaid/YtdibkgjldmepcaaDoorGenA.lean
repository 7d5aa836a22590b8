/- The generator of systems (cotillionref37): a number's place, the row of numbers that is used up, picks. -/
import Derived.Test.YtdibkgjldmepcaaDoorLexC
import Derived.Deep.QuietTactic
import Derived.BigQuiet
import Derived.Laws.BitsLemmas
namespace Go.Proofs.YtdibkgjldmepcaaDoor.Gen
open Go.RowKit Mem Lex
set_option linter.unusedVariables false

def placeV (v n : Int) : Int := if v.tmod n < 0 then v.tmod n + n else v.tmod n
theorem placeV_lt (v : Int) {n : Int} (hn : 1 ≤ n) : 0 ≤ placeV v n ∧ placeV v n < n := by
  have hlo := Int.lt_tmod_of_pos v (show 0 < n by omega)
  have hhi := Int.tmod_lt_of_pos v (show 0 < n by omega)
  unfold placeV
  split <;> omega
theorem place_c (v n : Int) (w : World) (hn : 1 ≤ n ∧ n ≤ 4611686018427387904) :
    Calls Tryd.prog 44 #[.int .i64 v, .int .i64 n] w fun e w' => e = .returned (.int .i64 (placeV v n)) ∧ w' = w := by
  have h1 : (n == 0) = false := by rw [beq_eq_false_iff_ne]; omega
  have hlo := Int.lt_tmod_of_pos v (show 0 < n by omega)
  have hhi := Int.tmod_lt_of_pos v (show 0 < n by omega)
  have h2 : IntKind.i64.wrap (v.tmod n) = v.tmod n := by rw [IntKind.wrap_i64]; omega
  unfold placeV
  generalize hr : v.tmod n = r at *
  have h3 : IntKind.i64.wrap (r + n) = r + n := by rw [IntKind.wrap_i64]; omega
  by_cases hneg : r < 0
  · rw [if_pos hneg]
    go_enter Tryd.func44, Tryd.ntmps44
    go_wp2_with fail
    go_ret
    exact ⟨rfl, rfl⟩
  · rw [if_neg hneg]
    go_enter Tryd.func44, Tryd.ntmps44
    go_wp2_with fail
    go_ret
    exact ⟨rfl, rfl⟩

/-- The row of numbers at block R: its numbers lie below it, and some are used up. -/
def Src (w : World) (R : Nat) : Prop := ∃ (a : Option Addr) (n c k : Nat) (zs : List Int), At w R 40 #[.slice a n c, .int .i64 k] ∧ ReadsI w a n zs ∧ (∀ x, a = some x → 0 < n → x.block < R) ∧ k ≤ n ∧ n ≤ 1000000 ∧
  (∀ z ∈ zs, -9223372036854775808 ≤ z ∧ z ≤ 9223372036854775807)
theorem ReadsI.keep {w w' : World} {a : Option Addr} {n : Nat} {zs : List Int} {S : Nat → Prop} (h : ReadsI w a n zs) (hf : Foot S w w') (hb : ∀ x, a = some x → 0 < n → x.block < w.heap.size ∧ ¬ S x.block) : ReadsI w' a n zs := by
  obtain ⟨h1, h2⟩ := h
  refine ⟨h1, fun h0 => ?_⟩
  obtain ⟨b, off, rfl, h3⟩ := h2 h0
  obtain ⟨h4, h5⟩ := hb _ rfl h0
  exact ⟨b, off, rfl, fun j hj => by rw [hf.cell (p := ⟨b, off + j, none⟩) h4 h5]; exact h3 j hj⟩
theorem Src.lt {w : World} {R : Nat} (h : Src w R) : R < w.heap.size := by
  obtain ⟨_, _, _, _, _, h, _⟩ := h
  exact h.lt
theorem Src.keep {w w' : World} {R : Nat} {S : Nat → Prop} (h : Src w R) (hf : Foot S w w') (hS : ∀ k, S k → R < k) : Src w' R := by
  have hlt := h.lt
  obtain ⟨a, n, c, k, zs, h1, h2, h3, h4, h5, h6⟩ := h
  refine ⟨a, n, c, k, zs, h1.keep hf fun h => Nat.lt_irrefl _ (hS _ h), ReadsI.keep h2 hf fun x hx h0 => ?_, h3, h4, h5, h6⟩
  have := h3 x hx h0
  exact ⟨by omega, fun h => by have := hS _ h; omega⟩
theorem Src.still {w w' : World} {R : Nat} (h : Src w R) (hf : Foot (fun _ => False) w w') : Src w' R := h.keep hf fun _ h => h.elim

set_option maxHeartbeats 1000000 in
theorem next_c (R : Nat) (n : Int) (w : World) (hs : Src w R) (hn : 1 ≤ n ∧ n ≤ 1000000) :
    Calls Tryd.prog 31 #[.pointer (some ⟨R, 0, none⟩), .int .i64 n] w fun e w' => ∃ x : Int, e = .returned (.int .i64 x) ∧ (0 ≤ x ∧ x < n) ∧ Src w' R ∧ Foot (fun k => k = R) w w' := by
  have hlt := hs.lt
  obtain ⟨a, m, c, k, zs, h1, h2, h3, h4, h5, h6⟩ := hs
  have HA := Lib.hid h1
  have HI := Lib.hid h2
  have c0 : w.cell? ⟨R, 0, none⟩ = some (.slice a m c) := h1.cell 0
  have c1 : w.cell? ⟨R, 1, none⟩ = some (.int .i64 k) := h1.cell 1
  have f1 : w.frozen? ⟨R, 1, none⟩ = false := h1.free 1
  have H3 := Lib.hid h3
  have H6 := Lib.hid h6
  clear h1 h3 h6
  by_cases hk : k < m
  · obtain ⟨hzl, hz⟩ := h2
    obtain ⟨b, off, rfl, hc⟩ := hz (by omega)
    have hcell := hc k hk
    have hbR : b < R := H3.out ⟨b, off, none⟩ rfl (by omega)
    have hzk : -9223372036854775808 ≤ zs.getD k 0 ∧ zs.getD k 0 ≤ 9223372036854775807 := by
      have hkl : k < zs.length := by omega
      rw [List.getD_eq_getElem?_getD, List.getElem?_eq_getElem hkl, Option.getD_some]
      exact H6.out _ (List.getElem_mem hkl)
    have PL := fun W => place_c (zs.getD k 0) n W (by omega)
    have hpl := placeV_lt (zs.getD k 0) (show 1 ≤ n by omega)
    generalize zs.getD k 0 = z at *
    clear hc hz hzk
    go_enter Tryd.func31, Tryd.ntmps31
    go_wp2_with fail
    go_quiet (fail)
    go_wp2_with fail
    have HA2 : Hid (At _ R 40 #[.slice (some ⟨b, off, none⟩) m c, .int .i64 ((k : Int) + 1)]) := Lib.hid ((HA.out.drewN nq).set 1 (.int .i64 ((k : Int) + 1)))
    have HF2 : Hid (Foot (fun j => j = R) w _) := Lib.hid (Foot.setCell (p := ⟨R, 1, none⟩) ((Foot.refl (fun j => j = R) w).drewN nq) (fun _ => rfl) (.int .i64 ((k : Int) + 1)))
    have hbw : w.cell? ⟨b, off + k, none⟩ = some (.int .i64 z) := hcell
    have hbl : b < w.heap.size := by omega
    have hcell2 : ((w.drewN nq).setCell ⟨R, 1, none⟩ (.int .i64 ((k : Int) + 1))).cell? ⟨b, off + k, none⟩ = some (.int .i64 z) := by
      rw [HF2.out.cell (p := ⟨b, off + k, none⟩) hbl (by simp only; omega)]
      exact hcell
    have HI2 := Lib.hid (ReadsI.keep HI.out HF2.out (fun x hx h0 => by have := H3.out x hx h0; exact ⟨by omega, by omega⟩))
    generalize (w.drewN nq).setCell ⟨R, 1, none⟩ (.int .i64 ((k : Int) + 1)) = w2 at *
    have d0 : w2.cell? ⟨R, 0, none⟩ = some (.slice (some ⟨b, off, none⟩) m c) := HA2.out.cell 0
    have d1 : w2.cell? ⟨R, 1, none⟩ = some (.int .i64 ((k : Int) + 1)) := HA2.out.cell 1
    clear c0 c1 f1 hcell hbw HA HI
    go_quiet (first | (go_at_call 44; with_reducible refine (PL _).mono ?_; rintro e w'' ⟨he, rfl⟩; exact ⟨he, _, rfl⟩))
    go_wp2_with fail
    go_ret
    exact ⟨_, rfl, hpl, ⟨_, m, c, k + 1, zs, HA2.out.drewN _, HI2.out, H3.out, by omega, h5, H6.out⟩, HF2.out.drewN _⟩
  · have hkm : ¬ (k : Int) < m := by omega
    go_enter Tryd.func31, Tryd.ntmps31
    go_wp2_with fail
    go_quiet (fail)
    go_wp2_with fail
    go_ret
    exact ⟨0, rfl, ⟨by omega, by omega⟩, ⟨a, m, c, k, zs, HA.out.drewN _, HI.out, H3.out, h4, h5, H6.out⟩, (Foot.refl _ w).drewN _⟩
end Go.Proofs.YtdibkgjldmepcaaDoor.Gen
