/- The reference's value and sign. -/
import Derived.Test.YtdibkgjldmepcaaDoorLexR
import Derived.Deep.QuietTactic
import Derived.BigQuiet
namespace Go.Proofs.YtdibkgjldmepcaaDoor.Lex
open Go.RowKit Mem
set_option linter.unusedVariables false

theorem decN_take {l : Bytes} {i : Nat} (h : i < l.length) : decN (l.take (i + 1)) = decN (l.take i) * 10 + (l[i].toNat - 48) := by
  unfold decN
  rw [List.take_succ_eq_append_getElem h, List.foldl_append]; rfl
theorem decN_split (l : Bytes) (i : Nat) : decN (l.take i) ≤ decN l := by
  have h : decN l = decF (decN (l.take i)) (l.drop i) := by
    unfold decN decF
    rw [← List.foldl_append, List.take_append_drop]
  rw [h]
  exact decF_ge _ _
theorem bs_get {s : ByteArray} {j : Nat} (h : j < s.size) : (bs s)[j]'(by rw [bs_len]; exact h) = s[j] := rfl
def okV (l : Bytes) : Int × Bool := match valN l with | some n => ((n : Int), true) | none => (0, false)

def twoC : Array Value := #[.string ⟨#[45, 62]⟩, .string ⟨#[61, 61]⟩, .string ⟨#[33, 61]⟩, .string ⟨#[60, 61]⟩, .string ⟨#[62, 61]⟩, .string ⟨#[38, 38]⟩, .string ⟨#[124, 124]⟩]
theorem two_get (k : Nat) (h : k < 7) : ∃ z : ByteArray, bs z = twoL[k]'h ∧ twoC[k]? = some (.string z) := by
  match k, h with
  | 0, _ => exact ⟨_, rfl, rfl⟩
  | 1, _ => exact ⟨_, rfl, rfl⟩
  | 2, _ => exact ⟨_, rfl, rfl⟩
  | 3, _ => exact ⟨_, rfl, rfl⟩
  | 4, _ => exact ⟨_, rfl, rfl⟩
  | 5, _ => exact ⟨_, rfl, rfl⟩
  | 6, _ => exact ⟨_, rfl, rfl⟩
theorem two_step {l : Bytes} {k : Nat} (h : k < 7) : (twoL.take (k + 1)).contains l = ((twoL.take k).contains l || l == twoL[k]'h) := by
  rw [List.take_succ_eq_append_getElem h, Bool.eq_iff_iff]
  simp
theorem sign_len {s : ByteArray} {i : Nat} (hi : i < s.size) : signLen ((bs s).drop i) = if twoL.contains (((bs s).drop i).take 2) then 2 else if sgn s[i] then 1 else 0 := by
  unfold signLen
  rw [bs_drop hi]

end Go.Proofs.YtdibkgjldmepcaaDoor.Lex
