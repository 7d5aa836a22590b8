/- What a byte is (lex.kind, by the shelf's contract of strings.IndexByte), how far a run goes, a line, the white space. -/
import Derived.Test.YtdibkgjldmepcaaDoorLexS
import Derived.Test.YtdibkgjldmepcaaDoorLibL
import Derived.LoopTactic
namespace Go.Proofs.YtdibkgjldmepcaaDoor.Lex
open Go.RowKit Mem
set_option linter.unusedVariables false

theorem indexByte_c (s : ByteArray) (c : Int) (w : World) : Calls Tryd.prog 62 #[.string s, .int .u8 c] w fun e w' => e = .returned (.int .i64 (Go.Lib.indexByte s.data.toList c.toNat.toUInt8)) ∧ w' = w :=
  Any.strings_IndexByte Tryd.layIndex s c w

def kindI (b : Int) : Int :=
  if b = 35 then 3 else if b = 32 ∨ b = 9 ∨ b = 10 ∨ b = 13 then 1 else if 48 ≤ b ∧ b ≤ 57 then 12
  else if (97 ≤ b ∧ b ≤ 122) ∨ (65 ≤ b ∧ b ≤ 90) ∨ b = 95 then 4 else if 0 ≤ Go.Lib.indexByte signL b.toNat.toUInt8 then 16 else 0

theorem kind_c (b : Int) (w : World) (h0 : 0 ≤ b) (h1 : b ≤ 255) :
    Calls Tryd.prog 45 #[.int .u8 b] w fun e w' => e = .returned (.int .i64 (kindI b)) ∧ w' = w := by
  go_enter Tryd.func45, Tryd.ntmps45
  go_wp2_with (go_at_call 62; refine (indexByte_c _ _ _).mono ?_; rintro e w' ⟨rfl, rfl⟩)
  all_goals go_ret
  all_goals refine ⟨congrArg (fun x => Ending.returned (Value.int .i64 x)) ?_, by first | rfl | assumption⟩
  all_goals simp only [beq_iff_eq, beq_eq_false_iff_ne, ne_eq] at *
  all_goals unfold kindI
  all_goals repeat' split
  all_goals first | omega | decide | (exfalso; simp only [signL, Nat.toUInt8] at *; omega)

theorem index_pos (c : UInt8) : ∀ l : Bytes, decide (0 ≤ Go.Lib.indexByte l c) = l.contains c
  | [] => by simp [Go.Lib.indexByte]
  | b :: l => by
    have ih := index_pos c l
    have hg := Go.Lib.indexByte_ge l c
    unfold Go.Lib.indexByte
    by_cases h : b = c
    · subst h; simp
    · have hbc : (b == c) = false := by simpa using h
      have hcb : (c == b) = false := by simpa using fun e => h e.symm
      rw [hbc, List.contains_cons, hcb, Bool.false_or, ← ih]
      simp only [Bool.false_eq_true, if_false]
      by_cases h1 : Go.Lib.indexByte l c = -1
      · rw [h1]; decide
      · have h2 : (Go.Lib.indexByte l c == -1) = false := by simpa using h1
        rw [h2]
        simp only [Bool.false_eq_true, if_false]
        exact decide_eq_decide.2 ⟨fun _ => by omega, fun _ => by omega⟩
theorem sgn_eq (b : UInt8) : sgn b = decide (0 ≤ Go.Lib.indexByte signL ((b.toNat : Int).toNat.toUInt8)) := by
  rw [index_pos, Int.toNat_natCast]
  simp [sgn]

theorem and_space (b : UInt8) : bits .and .i64 (kindI b.toNat) 1 = if sp b || b.toNat == 35 then 1 else 0 := by
  have := b.toNat_lt
  unfold kindI sp
  repeat' split
  all_goals simp only [Bool.or_eq_true, beq_iff_eq, not_or] at *
  all_goals first | omega | decide
theorem and_comment (b : UInt8) : bits .and .i64 (kindI b.toNat) 2 = if b.toNat = 35 then 2 else 0 := by
  have := b.toNat_lt
  unfold kindI
  repeat' split
  all_goals first | omega | decide
theorem and_word (b : UInt8) : bits .and .i64 (kindI b.toNat) 4 = if word b then 4 else 0 := by
  have := b.toNat_lt
  unfold kindI word letr dig
  repeat' split
  all_goals simp only [Bool.or_eq_true, Bool.and_eq_true, decide_eq_true_eq, beq_iff_eq, not_or] at *
  all_goals first | omega | decide
theorem and_digit (b : UInt8) : bits .and .i64 (kindI b.toNat) 8 = if dig b then 8 else 0 := by
  have := b.toNat_lt
  unfold kindI dig
  repeat' split
  all_goals simp only [Bool.and_eq_true, decide_eq_true_eq, not_or] at *
  all_goals first | omega | decide
theorem and_sign (b : UInt8) : bits .and .i64 (kindI b.toNat) 16 = if sgn b then 16 else 0 := by
  have hs := sgn_eq b
  by_cases h1 : b.toNat = 35
  · have : b = 35 := UInt8.toNat_inj.1 h1
    subst this; decide
  by_cases h2 : b.toNat = 32
  · have : b = 32 := UInt8.toNat_inj.1 h2
    subst this; decide
  by_cases h3 : b.toNat = 9
  · have : b = 9 := UInt8.toNat_inj.1 h3
    subst this; decide
  by_cases h4 : b.toNat = 10
  · have : b = 10 := UInt8.toNat_inj.1 h4
    subst this; decide
  by_cases h5 : b.toNat = 13
  · have : b = 13 := UInt8.toNat_inj.1 h5
    subst this; decide
  have hn : (dig b || letr b) = true → sgn b = false := by
    intro h
    unfold dig letr at h
    simp only [Bool.or_eq_true, Bool.and_eq_true, decide_eq_true_eq, beq_iff_eq] at h
    have hb : b = UInt8.ofNat b.toNat := by simp
    rw [Bool.eq_false_iff]
    intro hc
    unfold sgn signL at hc
    simp only [List.contains_cons, List.contains_nil, Bool.or_false, Bool.or_eq_true, beq_iff_eq] at hc
    rcases hc with rfl | rfl | rfl | rfl | rfl | rfl | rfl | rfl | rfl | rfl | rfl | rfl | rfl | rfl | rfl | rfl | rfl | rfl | rfl | rfl <;> simp at h
  unfold dig letr at hn
  simp only [Bool.or_eq_true, Bool.and_eq_true, decide_eq_true_eq, beq_iff_eq] at hn
  rw [hs]
  unfold kindI
  repeat' split
  all_goals simp only [decide_eq_true_eq] at *
  all_goals first | omega | decide | skip
  all_goals rw [hn (by omega)] at hs
  all_goals simp only [Bool.false_eq, decide_eq_false_iff_not] at hs
  all_goals first | omega | contradiction

theorem kind_b (b : UInt8) (w : World) : Calls Tryd.prog 45 #[.int .u8 b.toNat] w fun e w' => e = .returned (.int .i64 (kindI b.toNat)) ∧ w' = w :=
  kind_c _ w (by omega) (by have := b.toNat_lt; omega)

/-- The bytes of a text. -/
def bs (s : ByteArray) : Bytes := s.data.toList
theorem bs_len (s : ByteArray) : (bs s).length = s.size := Array.length_toList
theorem bs_drop {s : ByteArray} {j : Nat} (h : j < s.size) : (bs s).drop j = s[j] :: (bs s).drop (j + 1) := by
  rw [List.drop_eq_getElem_cons (by rw [bs_len]; exact h)]
  rfl
theorem bs_end {s : ByteArray} {j : Nat} (h : ¬ j < s.size) : (bs s).drop j = [] := List.drop_of_length_le (by rw [bs_len]; omega)

theorem run_c (s : ByteArray) (j : Nat) (m : Int) (p : UInt8 → Bool) (w : World) (hj : j ≤ s.size) (hs : s.size ≤ 281474976710656)
    (hp : ∀ b : UInt8, bits .and .i64 (kindI b.toNat) m = if p b then m else 0) (hm : m ≠ 0) :
    Calls Tryd.prog 47 #[.string s, .int .i64 j, .int .i64 m] w fun e w' => e = .returned (.int .i64 (j + span p ((bs s).drop j) : Nat)) ∧ w' = w := by
  go_enter Tryd.func47, Tryd.ntmps47
  go_wp2_with fail
  go_loopw [1] (fun v wr => ∃ i : Nat, v = .int .i64 i ∧ i ≤ s.size ∧ j + span p ((bs s).drop j) = i + span p ((bs s).drop i) ∧ wr = w) (fun v _ => s.size - (intOf v).toNat)
  case atStart => exact ⟨j, rfl, hj, rfl, rfl⟩
  case round =>
    obtain ⟨i, rfl, hi, he, rfl⟩ := hrel
    by_cases hlt : i < s.size
    · have hd := bs_drop hlt
      have hb := hp s[i]
      by_cases hpb : p s[i] = true
      · rw [if_pos hpb] at hb
        rw [hd, span, if_pos hpb] at he
        go_wp2_with (go_at_call 45; refine (kind_b _ _).mono ?_; rintro e w' ⟨rfl, rfl⟩)
        refine ⟨⟨i + 1, by rw [Int.natCast_add]; rfl, by omega, by omega, trivial⟩, ?_⟩
        simp only [intOf]
        omega
      · rw [if_neg hpb] at hb
        rw [hd, span, if_neg hpb] at he
        go_wp2_with (go_at_call 45; refine (kind_b _ _).mono ?_; rintro e w' ⟨rfl, rfl⟩)
        go_ret
        rw [he]
        exact ⟨rfl, rfl⟩
    · rw [bs_end hlt, span] at he
      go_wp2_with fail
      go_ret
      rw [he]
      exact ⟨rfl, rfl⟩

theorem bs_inj {s : ByteArray} {l : Bytes} (h : bs s = l) : s = ⟨l.toArray⟩ := by
  subst h; rfl
theorem bs_extract (s : ByteArray) (i j : Nat) : bs (s.extract i j) = ((bs s).take j).drop i := by
  unfold bs
  rw [ByteArray.data_extract, Array.toList_extract, List.extract_eq_take_drop, List.drop_take]
theorem bs_from (s : ByteArray) (i : Nat) : bs (s.extract i s.size) = (bs s).drop i := by
  rw [bs_extract, List.take_of_length_le (by rw [bs_len]; exact Nat.le_refl _)]
theorem index_nl : ∀ l : Bytes, Go.Lib.indexByte l 10 = if span (fun b => !isNl b) l = l.length then -1 else (span (fun b => !isNl b) l : Int)
  | [] => rfl
  | b :: l => by
    have ih := index_nl l
    have hle := span_le (fun b => !isNl b) l
    unfold Go.Lib.indexByte span
    by_cases h : b = 10
    · subst h; simp [isNl]
    · have hbc : (b == 10) = false := by simpa using h
      have hn : isNl b = false := by
        unfold isNl
        rw [beq_eq_false_iff_ne]
        intro e
        exact h (UInt8.toNat_inj.1 e)
      rw [hbc, hn, ih]
      simp only [Bool.false_eq_true, if_false, Bool.not_false, if_true, List.length_cons]
      generalize span (fun b => !isNl b) l = k at *
      generalize l.length = n at *
      by_cases h1 : k = n
      · subst h1; simp
      · have h2 : ((k : Int) == -1) = false := by rw [beq_eq_false_iff_ne]; omega
        have h3 : ¬ (k + 1 = n + 1) := by omega
        rw [if_neg h1, if_neg h3, h2, if_neg (by decide)]
        rfl

/-- How far a line goes. -/
def lineN (l : Bytes) : Nat := span (fun b => !isNl b) l
theorem line_c (s : ByteArray) (j : Nat) (w : World) (hj : j ≤ s.size) (hs : s.size ≤ 281474976710656) :
    Calls Tryd.prog 46 #[.string s, .int .i64 j] w fun e w' => e = .returned (.int .i64 (j + lineN ((bs s).drop j) : Nat)) ∧ w' = w := by
  have hi := index_nl ((bs s).drop j)
  have hl : ((bs s).drop j).length = s.size - j := by rw [List.length_drop, bs_len]
  have hle := span_le (fun b => !isNl b) ((bs s).drop j)
  rw [hl] at hi hle
  generalize hk : lineN ((bs s).drop j) = k
  unfold lineN at hk
  rw [hk] at hi hle
  have hx : ∀ W : World, Calls Tryd.prog 62 #[.string (s.extract j s.size), .int .u8 10] W fun e w' => e = .returned (.int .i64 (if k = s.size - j then -1 else (k : Int))) ∧ w' = W := fun W => by
    have h := indexByte_c (s.extract j s.size) 10 W
    rw [show (s.extract j s.size).data.toList = (bs s).drop j from bs_from s j, show (10 : Int).toNat.toUInt8 = 10 from rfl, hi] at h
    exact h
  by_cases h1 : k = s.size - j
  · simp only [if_pos h1] at hx
    go_enter Tryd.func46, Tryd.ntmps46
    go_wp2_with (go_at_call 62; refine (hx _).mono ?_; rintro e w' ⟨rfl, rfl⟩)
    go_ret
    exact ⟨by rw [show j + k = s.size by omega]; rfl, rfl⟩
  · simp only [if_neg h1] at hx
    go_enter Tryd.func46, Tryd.ntmps46
    go_wp2_with (go_at_call 62; refine (hx _).mono ?_; rintro e w' ⟨rfl, rfl⟩)
    go_ret
    exact ⟨by rw [Int.natCast_add]; rfl, rfl⟩

theorem skip_c (s : ByteArray) (j : Nat) (w : World) (hj : j ≤ s.size) (hs : s.size ≤ 281474976710656) :
    Calls Tryd.prog 33 #[.string s, .int .i64 j] w fun e w' => e = .returned (.int .i64 (j + skipN false ((bs s).drop j) : Nat)) ∧ w' = w := by
  go_enter Tryd.func33, Tryd.ntmps33
  go_wp2_with fail
  go_loopw [1] (fun v wr => ∃ i : Nat, v = .int .i64 i ∧ i ≤ s.size ∧ j + skipN false ((bs s).drop j) = i + skipN false ((bs s).drop i) ∧ wr = w) (fun v _ => s.size - (intOf v).toNat)
  case atStart => exact ⟨j, rfl, hj, rfl, rfl⟩
  case round =>
    obtain ⟨i, rfl, hi, he, rfl⟩ := hrel
    by_cases hlt : i < s.size
    · have hd := bs_drop hlt
      have hb := and_space s[i]
      have hc := and_comment s[i]
      rw [hd, skip_f] at he
      by_cases h1 : s[i].toNat = 35
      · have hsp : sp s[i] = false := by unfold sp; rw [h1]; rfl
        have hnl : isNl s[i] = false := by unfold isNl; rw [h1]; rfl
        have hlen := span_le (fun b => !isNl b) ((bs s).drop i)
        rw [List.length_drop, bs_len] at hlen
        have hspan : lineN ((bs s).drop i) = span (fun b => !isNl b) ((bs s).drop (i + 1)) + 1 := by rw [hd]; unfold lineN; rw [span, hnl]; rfl
        have hx := fun W => line_c s i W hi hs
        have hk := skipN_line ((bs s).drop (i + 1))
        rw [List.drop_drop] at hk
        rw [hsp, if_neg (by decide), if_pos h1] at he
        unfold lineN at hspan
        unfold lineN at hx
        generalize hkk : span (fun b => !isNl b) ((bs s).drop i) = k at *
        have he2 : j + skipN false ((bs s).drop j) = (i + k) + skipN false ((bs s).drop (i + k)) := by
          rw [he, hk, show i + 1 + span (fun b => !isNl b) ((bs s).drop (i + 1)) = i + k by omega]
          omega
        rw [hsp, Bool.false_or, (by simpa using h1 : (s[i].toNat == 35) = true), if_pos rfl] at hb
        rw [if_pos h1] at hc
        have hk1 : 1 ≤ k := by omega
        clear he hk h1 hspan
        go_wp2_with (first | (go_at_call 45; refine (kind_b _ _).mono ?_; rintro e w' ⟨rfl, rfl⟩) | (go_at_call 46; refine (hx _).mono ?_; rintro e w' ⟨rfl, rfl⟩))
        refine ⟨⟨i + k, by rw [Int.natCast_add], by omega, he2, trivial⟩, ?_⟩
        simp only [intOf]
        omega
      · rw [if_neg h1] at hc
        have h2 : (s[i].toNat == 35) = false := by simpa using h1
        rw [h2, Bool.or_false] at hb
        by_cases hsp : sp s[i] = true
        · rw [if_pos hsp] at he hb
          go_wp2_with (go_at_call 45; refine (kind_b _ _).mono ?_; rintro e w' ⟨rfl, rfl⟩)
          refine ⟨⟨i + 1, by rw [Int.natCast_add]; rfl, by omega, by omega, trivial⟩, ?_⟩
          simp only [intOf]
          omega
        · rw [if_neg hsp] at he hb
          rw [if_neg h1] at he
          go_wp2_with (go_at_call 45; refine (kind_b _ _).mono ?_; rintro e w' ⟨rfl, rfl⟩)
          go_ret
          rw [he]
          exact ⟨rfl, rfl⟩
    · rw [bs_end hlt, skip_nil] at he
      go_wp2_with fail
      go_ret
      rw [he]
      exact ⟨rfl, rfl⟩
end Go.Proofs.YtdibkgjldmepcaaDoor.Lex
