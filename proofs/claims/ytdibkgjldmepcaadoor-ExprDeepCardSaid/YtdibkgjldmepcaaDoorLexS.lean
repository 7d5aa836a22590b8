/- Chapter 6 in general words, without a program: which byte is what, how far a run and the white space go, what a token is, the tokens of a text. -/
import Derived.Test.YtdibkgjldmepcaaDoorMem
import Derived.Lib.Bytealg
import Derived.Lib.ParseIntBTie
import Derived.Lib.Strings
namespace Go.Proofs.YtdibkgjldmepcaaDoor.Lex
open Go.RowKit Mem
set_option linter.unusedVariables false

abbrev Bytes := List UInt8
def sp (b : UInt8) : Bool := b.toNat == 32 || b.toNat == 9 || b.toNat == 10 || b.toNat == 13
def dig (b : UInt8) : Bool := decide (48 ≤ b.toNat) && decide (b.toNat ≤ 57)
def letr (b : UInt8) : Bool := decide (97 ≤ b.toNat) && decide (b.toNat ≤ 122) || decide (65 ≤ b.toNat) && decide (b.toNat ≤ 90) || b.toNat == 95
def word (b : UInt8) : Bool := letr b || dig b
def signL : Bytes := [123, 125, 40, 41, 91, 93, 59, 44, 46, 58, 61, 60, 62, 43, 45, 42, 47, 37, 33, 36]
def sgn (b : UInt8) : Bool := signL.contains b
def twoL : List Bytes := [[45, 62], [61, 61], [33, 61], [60, 61], [62, 61], [38, 38], [124, 124]]

/-- How many bytes from the head on are p. -/
def span (p : UInt8 → Bool) : Bytes → Nat
  | [] => 0
  | b :: r => if p b then span p r + 1 else 0
theorem span_le (p : UInt8 → Bool) : ∀ l : Bytes, span p l ≤ l.length
  | [] => Nat.le_refl _
  | b :: r => by unfold span; have := span_le p r; split <;> simp <;> omega
def isNl (b : UInt8) : Bool := b.toNat == 10
/-- How many bytes of white space there are; true: within a comment. -/
def skipN : Bool → Bytes → Nat
  | _, [] => 0
  | false, b :: r => if sp b then skipN false r + 1 else if b.toNat = 35 then skipN true r + 1 else 0
  | true, b :: r => if isNl b then skipN false r + 1 else skipN true r + 1
theorem skip_nil (c : Bool) : skipN c [] = 0 := by cases c <;> rfl
theorem skip_f (b : UInt8) (r : Bytes) : skipN false (b :: r) = if sp b then skipN false r + 1 else if b.toNat = 35 then skipN true r + 1 else 0 := rfl
theorem skip_t (b : UInt8) (r : Bytes) : skipN true (b :: r) = if isNl b then skipN false r + 1 else skipN true r + 1 := rfl
theorem skipN_le : ∀ (c : Bool) (l : Bytes), skipN c l ≤ l.length
  | c, [] => by rw [skip_nil]; exact Nat.zero_le _
  | false, b :: r => by
    rw [skip_f]
    have h1 := skipN_le false r
    have h2 := skipN_le true r
    rw [List.length_cons]
    split
    · omega
    · split <;> omega
  | true, b :: r => by
    rw [skip_t]
    have h1 := skipN_le false r
    have h2 := skipN_le true r
    rw [List.length_cons]
    split <;> omega
/-- In a comment: up to the line's end, then on. -/
theorem skipN_line : ∀ l : Bytes, skipN true l = span (fun b => !isNl b) l + skipN false (l.drop (span (fun b => !isNl b) l))
  | [] => rfl
  | b :: r => by
    have ih := skipN_line r
    rw [skip_t]
    unfold span
    by_cases h : isNl b = true
    · have hs : sp b = true := by unfold isNl at h; unfold sp; simp at h; simp [h]
      simp [h, skip_f, hs]
    · simp only [Bool.not_eq_true] at h
      simp only [h, Bool.false_eq_true, if_false, Bool.not_false, if_true, List.drop_succ_cons]
      omega

def decN (l : Bytes) : Nat := l.foldl (fun a c => a * 10 + (c.toNat - 48)) 0
def valN (l : Bytes) : Option Nat := if decN l ≤ 9223372036854775807 then some (decN l) else none
def signLen (l : Bytes) : Nat :=
  if twoL.contains (l.take 2) then 2 else match l with | [] => 0 | b :: _ => if sgn b then 1 else 0

/-- A token without its place. -/
structure T where
  kind : Int
  len : Nat
  n : Int
def eByte : Int := 10
def eLong : Int := 13
def eRange : Int := 16
def eTok : Int := 11
/-- The token at the head, or its error. -/
def tokN (l : Bytes) : Except Int T :=
  match l with
  | [] => .error 0
  | b :: _ =>
    if dig b then
      if 1 < span dig l ∧ b.toNat = 48 then .error eTok
      else match valN (l.take (span dig l)) with
        | some n => .ok ⟨2, span dig l, n⟩
        | none => .error eRange
    else if letr b then
      if 24 < span word l then .error eLong else .ok ⟨1, span word l, 0⟩
    else if signLen l = 0 then .error eByte
    else .ok ⟨3, signLen l, 0⟩
theorem signLen_le (l : Bytes) : signLen l ≤ l.length := by
  unfold signLen
  split
  · rename_i h
    have h2 : 2 ≤ (l.take 2).length := by
      simp only [twoL, List.contains_cons, List.contains_nil, Bool.or_false, Bool.or_eq_true, beq_iff_eq] at h
      rcases h with h | h | h | h | h | h | h <;> rw [h] <;> simp
    rw [List.length_take] at h2
    omega
  · cases l with
    | nil => simp
    | cons b r => simp only [List.length_cons]; split <;> omega
theorem tokN_len {l : Bytes} {t : T} (h : tokN l = .ok t) : 1 ≤ t.len ∧ t.len ≤ l.length := by
  cases l with
  | nil => simp [tokN] at h
  | cons b r =>
    unfold tokN at h
    simp only at h
    split at h
    · rename_i hd
      split at h
      · cases h
      · split at h
        · cases h
          have := span_le dig (b :: r)
          refine ⟨?_, this⟩
          simp [span, hd]
        · cases h
    · split at h
      · rename_i hl
        split at h
        · cases h
        · cases h
          have := span_le word (b :: r)
          refine ⟨?_, this⟩
          simp [span, word, hl]
      · split at h
        · cases h
        · cases h
          have := signLen_le (b :: r)
          rename_i h0
          exact ⟨show 1 ≤ signLen (b :: r) by omega, this⟩

structure Tok where
  kind : Int
  at_ : Nat
  en : Nat
  text : Bytes
  n : Int
deriving Inhabited
/-- What is left behind k bytes and the white space behind them. -/
def behind (k : Nat) (l : Bytes) : Bytes := (l.drop k).drop (skipN false (l.drop k))
theorem behind_le (k : Nat) (l : Bytes) : (behind k l).length ≤ l.length - k := by
  unfold behind; simp; omega
/-- The tokens of l, which ends at place tot; or the first error and its place. -/
def lexW (tot : Nat) (l : Bytes) : Except (Int × Nat) (List Tok) :=
  match l with
  | [] => .ok []
  | b :: r =>
    match tokN (b :: r) with
    | .error e => .error (e, tot - (b :: r).length)
    | .ok t => (lexW tot (behind (t.len - 1) r)).map fun ts => ⟨t.kind, tot - (b :: r).length, tot - (b :: r).length + t.len, (b :: r).take t.len, t.n⟩ :: ts
termination_by l.length
decreasing_by have := behind_le (t.len - 1) r; simp; omega
theorem lexW_nil (tot : Nat) : lexW tot [] = .ok [] := by rw [lexW]
theorem lexW_err {tot : Nat} {l : Bytes} {e : Int} (hl : l ≠ []) (h : tokN l = .error e) : lexW tot l = .error (e, tot - l.length) := by
  cases l with
  | nil => exact absurd rfl hl
  | cons b r => rw [lexW, h]
theorem lexW_ok {tot : Nat} {l : Bytes} {t : T} (h : tokN l = .ok t) : lexW tot l = (lexW tot (behind t.len l)).map fun ts => ⟨t.kind, tot - l.length, tot - l.length + t.len, l.take t.len, t.n⟩ :: ts := by
  cases l with
  | nil => simp [tokN] at h
  | cons b r =>
    have hk := (tokN_len h).1
    rw [lexW, h]
    simp only
    rw [show behind (t.len - 1) r = behind t.len (b :: r) by unfold behind; rw [show t.len = (t.len - 1) + 1 by omega, List.drop_succ_cons]; simp]
/-- The tokens of a whole text, its end aside. -/
def lexAll (l : Bytes) : Except (Int × Nat) (List Tok) := lexW l.length (l.drop (skipN false l))
end Go.Proofs.YtdibkgjldmepcaaDoor.Lex
