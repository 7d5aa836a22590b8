/- Decimal digits (law 6's own), and texts of digits alone. -/
import Derived.Test.YtdibkgjldmepcaaDoorLexK
import Derived.Deep.QuietTactic
import Derived.BigQuiet
import Derived.Laws.BitsLemmas
namespace Go.Proofs.YtdibkgjldmepcaaDoor.Lex
open Go.RowKit Mem
set_option linter.unusedVariables false

def dgs (k : Nat) : Bytes := if k < 10 then [UInt8.ofNat (48 + k)] else dgs (k / 10) ++ [UInt8.ofNat (48 + k % 10)]
termination_by k
decreasing_by omega
theorem dgs_lt {k : Nat} (h : k < 10) : dgs k = [UInt8.ofNat (48 + k)] := by rw [dgs, if_pos h]
theorem dgs_ge {k : Nat} (h : ¬ k < 10) : dgs k = dgs (k / 10) ++ [UInt8.ofNat (48 + k % 10)] := by rw [dgs, if_neg h]
theorem dig_of {d : Nat} (h : d < 10) : (UInt8.ofNat (48 + d)).toNat = 48 + d := by
  simp [UInt8.toNat_ofNat']
  omega
theorem dgs_all : ∀ (m k : Nat), k ≤ m → (∀ b ∈ dgs k, dig b = true) ∧ dgs k ≠ [] ∧ decN (dgs k) = k ∧ (∃ b r, dgs k = b :: r ∧ (10 ≤ k → b.toNat ≠ 48) ∧ (k < 10 → b.toNat = 48 + k))
  | m, k, hm => by
    by_cases h : k < 10
    · rw [dgs_lt h]
      have hd := dig_of h
      refine ⟨fun b hb => ?_, List.cons_ne_nil _ _, ?_, _, _, rfl, fun h2 => absurd h (by omega), fun _ => hd⟩
      · rw [List.mem_singleton.1 hb]
        exact dig_iff.2 (by omega)
      · unfold decN
        rw [List.foldl_cons, List.foldl_nil, hd]
        omega
    · rw [dgs_ge h]
      obtain ⟨h1, h2, h3, b, r, h4, h5, h6⟩ := dgs_all (m - 1) (k / 10) (by omega)
      have hd := dig_of (show k % 10 < 10 by omega)
      refine ⟨fun c hc => ?_, by simp, ?_, b, r ++ [UInt8.ofNat (48 + k % 10)], by rw [h4]; rfl, fun _ => ?_, fun h7 => absurd h7 h⟩
      · rcases List.mem_append.1 hc with hc | hc
        · exact h1 c hc
        · rw [List.mem_singleton.1 hc]
          exact dig_iff.2 (by omega)
      · unfold decN at h3 ⊢
        rw [List.foldl_append, h3, List.foldl_cons, List.foldl_nil, hd]
        omega
      · by_cases h8 : k / 10 < 10
        · have := h6 h8
          omega
        · exact h5 (by omega)
termination_by m => m
decreasing_by omega
theorem dgs_len : ∀ (m k : Nat), k < 10 ^ m → 1 ≤ m → (dgs k).length ≤ m
  | 0, k, _, h => absurd h (by omega)
  | 1, k, h, _ => by rw [dgs_lt (by omega)]; simp
  | m + 2, k, h, _ => by
    by_cases h1 : k < 10
    · rw [dgs_lt h1]; simp
    · rw [dgs_ge h1, List.length_append, List.length_singleton]
      have := dgs_len (m + 1) (k / 10) (by rw [Nat.pow_succ] at h ⊢; omega) (by omega)
      omega

theorem span_full {p : UInt8 → Bool} : ∀ {l : Bytes}, (∀ b ∈ l, p b = true) → span p l = l.length
  | [], _ => rfl
  | b :: r, h => by
    unfold span
    rw [if_pos (h b (List.mem_cons_self ..)), span_full fun c hc => h c (List.mem_cons_of_mem _ hc), List.length_cons]
/-- A text of digits alone. -/
theorem outcome_digits {l : Bytes} {b : UInt8} {r : Bytes} (hl : l = b :: r) (hd : ∀ c ∈ l, dig c = true) (hlen : l.length ≤ 16384) :
    outcome l = if 1 < l.length ∧ b.toNat = 48 then (([], 11, 0) : List Tok × Int × Int) else match valN l with | some n => ([⟨2, 0, l.length, l, n⟩, endTok l.length], 0, 0) | none => ([], 16, 0) := by
  have hb := hd b (by rw [hl]; exact List.mem_cons_self ..)
  have hb2 := dig_iff.1 hb
  have hs : sp b = false := by unfold sp; simp; omega
  have hsk : skipN false l = 0 := by rw [hl, skip_f, hs]; simp; omega
  have htok : tokN l = if 1 < l.length ∧ b.toNat = 48 then .error eTok else match valN l with | some n => .ok ⟨2, l.length, n⟩ | none => .error eRange := by
    have hsp := span_full hd
    rw [hl] at hsp ⊢
    unfold tokN
    simp only
    rw [if_pos hb, hsp, List.take_length]
    rfl
  have hne : l ≠ [] := by rw [hl]; exact List.cons_ne_nil _ _
  unfold outcome
  rw [if_neg (by omega)]
  unfold lexAll
  rw [hsk, List.drop_zero]
  by_cases h1 : 1 < l.length ∧ b.toNat = 48
  · rw [if_pos h1] at htok ⊢
    rw [lexW_err hne htok, Nat.sub_self]
    rfl
  · rw [if_neg h1] at htok ⊢
    cases hv : valN l with
    | none =>
      rw [hv] at htok
      rw [lexW_err hne htok, Nat.sub_self]
      rfl
    | some n =>
      rw [hv] at htok
      rw [lexW_ok htok, Nat.sub_self]
      have hbe : behind l.length l = [] := by unfold behind; rw [List.drop_length]; rfl
      simp only [hbe, lexW_nil, List.take_length, Nat.zero_add]
      rfl

def zS (k : Nat) : ByteArray := ⟨(dgs k).toArray⟩
theorem zS_size {k : Nat} (h : k ≤ 9223372036854775807) : (zS k).size ≤ 19 := by
  have h1 := dgs_len 19 k (by omega) (by omega)
  have h2 : (bs (zS k)).length = (zS k).size := bs_len _
  rw [← h2]
  exact h1
theorem bs_append (a b : ByteArray) : bs (a ++ b) = bs a ++ bs b := by
  unfold bs
  rw [ByteArray.data_append, Array.toList_append]
/-- The digit's own piece of the row of digits. -/
theorem digit_piece (d : Nat) (h : d < 10) : ∃ q : ByteArray, bs q = [UInt8.ofNat (48 + d)] ∧ q.size = 1 ∧
    ∀ (W : World) (j : Int), j = (d : Int) + 1 → (Instr.slice 9 (.string ⟨#[48, 49, 50, 51, 52, 53, 54, 55, 56, 57]⟩) (some (.int .i64 d)) (some (.int .i64 j)) none).run Tryd.prog W = .ok (.string q) W := by
  obtain ⟨q, h1, h2, h3⟩ := piece ⟨#[48, 49, 50, 51, 52, 53, 54, 55, 56, 57]⟩ d 1 (show d + 1 ≤ 10 by omega)
  refine ⟨q, ?_, h2, fun W j hj => h3 W j (by rw [hj]; rfl)⟩
  rw [h1]
  match d, h with
  | 0, _ => rfl
  | 1, _ => rfl
  | 2, _ => rfl
  | 3, _ => rfl
  | 4, _ => rfl
  | 5, _ => rfl
  | 6, _ => rfl
  | 7, _ => rfl
  | 8, _ => rfl
  | 9, _ => rfl
  | (n + 10), h => exact absurd h (by omega)

theorem noTk (k : Nat) : True := trivial
end Go.Proofs.YtdibkgjldmepcaaDoor.Lex
