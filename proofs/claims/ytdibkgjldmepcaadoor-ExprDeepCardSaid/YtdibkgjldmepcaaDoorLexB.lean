/- Numbers, signs, one token of the program's own. -/
import Derived.Test.YtdibkgjldmepcaaDoorLexA
import Derived.Test.YtdibkgjldmepcaaDoorRows
import Derived.Lib.ConvBytes
import Derived.Lib.AtoiErrMem
import Derived.Lib.ParseIntBCases
namespace Go.Proofs.YtdibkgjldmepcaaDoor.Lex
open Go.RowKit Mem
set_option linter.unusedVariables false

/-- The names of the variables that are read, as the rows have them. -/
def vRng : String := (Rows.exprRightsRow.named[1]?).getD default
def vTab : String := (Rows.exprRightsRow.named[2]?).getD default
/-- The variables hold what the rows list. -/
structure Vars (w : World) : Prop where
  rng : ∃ tp p, w.var? Tryd.prog vRng = some #[.iface tp p]
  tab : Go.Lib.TabIs Tryd.prog w vTab .u64 Go.Lib.pow10Tab
theorem var_keep {w w' : World} {n : String} {cs : Array Value} (h : w.var? Tryd.prog n = some cs) (hf : Foot (fun _ => False) w w') : w'.var? Tryd.prog n = some cs := by
  unfold World.var? at h ⊢
  cases hg : (Tryd.prog).globalNamed n with
  | none => simp [hg] at h
  | some g =>
    simp only [hg, Option.bind_some] at h ⊢
    have hlt : g < w.heap.size := by
      rcases Nat.lt_or_ge g w.heap.size with h' | h'
      · exact h'
      · simp [Array.getElem?_eq_none h'] at h
    rw [hf.block g hlt id]
    exact h
theorem Vars.keep {w w' : World} (h : Vars w) (hf : Foot (fun _ => False) w w') : Vars w' := by
  obtain ⟨⟨tp, p, h1⟩, h2⟩ := h
  exact ⟨⟨tp, p, var_keep h1 hf⟩, var_keep h2 hf⟩

def decF (a : Nat) (l : Bytes) : Nat := l.foldl (fun a c => a * 10 + (c.toNat - 48)) a
theorem decF_cons (a : Nat) (b : UInt8) (l : Bytes) : decF a (b :: l) = decF (a * 10 + (b.toNat - 48)) l := by
  unfold decF
  rw [List.foldl_cons]
theorem decF_ge : ∀ (l : Bytes) (a : Nat), a ≤ decF a l
  | [], a => Nat.le_refl _
  | b :: l, a => by
    have := decF_ge l (a * 10 + (b.toNat - 48))
    rw [decF_cons]; omega
theorem decF_mono : ∀ (l : Bytes) {a b : Nat}, a ≤ b → decF a l ≤ decF b l
  | [], _, _, h => h
  | c :: l, a, b, h => by rw [decF_cons, decF_cons]; exact decF_mono l (by omega)
theorem dig_iff {b : UInt8} : dig b = true ↔ 48 ≤ b.toNat ∧ b.toNat ≤ 57 := by unfold dig; simp
theorem parse_digits (M : Nat) (hM : M = 18446744073709551615) : ∀ (l : Bytes) (a : Nat), (∀ b ∈ l, dig b = true) → a ≤ M →
    Go.Lib.parseUintM M a l = if decF a l ≤ M then .ok (decF a l) else .range
  | [], a, _, h => by rw [Go.Lib.parseUintM, if_pos (show decF a [] ≤ M from h)]; rfl
  | b :: l, a, hd, h => by
    have hb := dig_iff.1 (hd b (List.mem_cons_self ..))
    have hge := decF_ge l (a * 10 + (b.toNat - 48))
    rw [Go.Lib.parseUintM, if_pos hb, decF_cons]
    by_cases h1 : 1844674407370955162 ≤ a
    · rw [if_pos h1, if_neg (by omega)]
    · rw [if_neg h1]
      by_cases h2 : M < a * 10 + (b.toNat - 48)
      · rw [if_pos h2, if_neg (by omega)]
      · rw [if_neg h2]
        exact parse_digits M hM l _ (fun c hc => hd c (List.mem_cons_of_mem _ hc)) (by omega)
theorem parseInt_digits {l : Bytes} (hl : l ≠ []) (hd : ∀ b ∈ l, dig b = true) :
    Go.Lib.parseIntB 64 l = match valN l with | some n => .ok (n : Int) | none => .range := by
  cases l with
  | nil => exact absurd rfl hl
  | cons c r =>
    have hb := dig_iff.1 (hd c (List.mem_cons_self ..))
    rw [Go.Lib.parseIntB_plain 64 c r (by omega) (by omega)]
    unfold Go.Lib.parseUintB
    rw [if_neg hl, show (2 : Nat) ^ 64 - 1 = 18446744073709551615 from rfl, parse_digits _ rfl _ 0 hd (by omega)]
    unfold valN
    rw [show decN (c :: r) = decF 0 (c :: r) from rfl]
    by_cases h1 : decF 0 (c :: r) ≤ 18446744073709551615
    · rw [if_pos h1]
      unfold Go.Lib.signlessC
      by_cases h2 : decF 0 (c :: r) ≤ 9223372036854775807
      · simp only [h2, if_true]
        rw [if_neg (by omega)]
      · simp only [h2, if_false]
        rw [if_pos (by omega)]
    · rw [if_neg h1, if_neg (by omega)]
      rfl

/-- The number that digits stand for, and what is wrong with it. -/
def numV (l : Bytes) : Int × Int :=
  if 1 < l.length ∧ (l.head?.map (·.toNat)) = some 48 then (0, 11) else match valN l with | some n => ((n : Int), 0) | none => (0, 16)

theorem parse_ok (s : ByteArray) (v : Int) (w : World) (hs : s.size ≤ 281474976710656) (h : Go.Lib.parseIntB 64 (bs s) = .ok v) :
    Calls Tryd.prog 63 #[.string s, .int .i64 10, .int .i64 64] w fun e w' => e = .returned (.tuple #[.int .i64 v, .nilIface]) ∧ Foot (fun _ => False) w w' :=
  (Any.strconv_ParseInt_10_at64_ok Tryd.layParse s (by omega) v h w).mono fun e w' ⟨h1, h2⟩ => ⟨h1, by
    rcases h2 with rfl | ⟨t, rfl⟩
    · exact Foot.refl _ _
    · exact Foot.ofBelow (Go.Lib.bytesWorld_below w _ t) fun k hk hb => absurd hb (by omega)⟩
theorem parse_range (s : ByteArray) (w : World) (hs : s.size ≤ 281474976710656) (hv : Vars w) (h : Go.Lib.parseIntB 64 (bs s) = .range) :
    Calls Tryd.prog 63 #[.string s, .int .i64 10, .int .i64 64] w fun e w' => ∃ n t p, e = .returned (.tuple #[.int .i64 n, .iface t p]) ∧ Foot (fun _ => False) w w' := by
  obtain ⟨tp, p, hv⟩ := hv.rng
  exact (Any.strconv_ParseInt_10_at64_range_var Tryd.layParse s hs h tp p w hv).mono fun e w' ⟨N, h1, _, _, h2⟩ => ⟨_, _, _, h1, Foot.ofBelow h2 fun k hk hb => absurd hb (by omega)⟩

theorem value_c (s : ByteArray) (w : World) (hs : s.size ≤ 281474976710656) (hv : Vars w) (hne : bs s ≠ []) (hd : ∀ b ∈ bs s, dig b = true) :
    Calls Tryd.prog 48 #[.string s] w fun e w' => e = .returned (.tuple #[.int .i64 (numV (bs s)).1, .int .i64 (numV (bs s)).2]) ∧ Foot (fun _ => False) w w' := by
  have hp := parseInt_digits hne hd
  have h0 : 0 < s.size := by
    have := List.length_pos_iff.2 hne
    rw [bs_len] at this; exact this
  have hd0 := bs_drop h0
  rw [List.drop_zero] at hd0
  have hv' := Lib.hid hv
  have hbyte : s[0].toNat < 256 := s[0].toNat_lt
  have HF : Hid (Foot (fun _ => False) w w) := Lib.hid (Foot.refl _ w)
  by_cases hz : 1 < s.size ∧ s[0].toNat = 48
  · have hr : numV (bs s) = (0, 11) := by unfold numV; rw [bs_len, if_pos ⟨hz.1, by rw [hd0]; simp [hz.2]⟩]
    rw [hr]
    obtain ⟨hz1, hz2⟩ := hz
    clear hp hd hne hd0 hv hr
    go_enter Tryd.func48, Tryd.ntmps48
    go_wp2_with fail
    go_ret2
    exact ⟨rfl, HF.out⟩
  · have hr : numV (bs s) = match valN (bs s) with | some n => ((n : Int), 0) | none => (0, 16) := by
      unfold numV
      rw [bs_len, if_neg (fun h => hz ⟨h.1, by have := h.2; rw [hd0] at this; simpa using this⟩)]
    rw [hr]
    clear hr hd0 hd hne
    cases hval : valN (bs s) with
    | some n =>
      rw [hval] at hp
      have hx := fun W => parse_ok s n W hs hp
      clear hp hval hv
      by_cases h1 : 1 < s.size
      · have h2 : ¬ s[0].toNat = 48 := fun h => hz ⟨h1, h⟩
        have h3 : ((s[0].toNat : Int) == 48) = false := by rw [beq_eq_false_iff_ne]; omega
        clear hz h2
        go_enter Tryd.func48, Tryd.ntmps48
        go_wp2_with (go_at_call 63; refine (hx _).mono ?_; rintro e w' ⟨rfl, hf⟩; have HF2 := Lib.hid hf; clear hf)
        go_ret2
        exact ⟨rfl, HF2.out⟩
      · clear hz
        go_enter Tryd.func48, Tryd.ntmps48
        go_wp2_with (go_at_call 63; refine (hx _).mono ?_; rintro e w' ⟨rfl, hf⟩; have HF2 := Lib.hid hf; clear hf)
        go_ret2
        exact ⟨rfl, HF2.out⟩
    | none =>
      rw [hval] at hp
      have hx := fun W hW => parse_range s W hs hW hp
      clear hp hval hv
      by_cases h1 : 1 < s.size
      · have h2 : ¬ s[0].toNat = 48 := fun h => hz ⟨h1, h⟩
        have h3 : ((s[0].toNat : Int) == 48) = false := by rw [beq_eq_false_iff_ne]; omega
        clear hz h2
        go_enter Tryd.func48, Tryd.ntmps48
        go_wp2_with (go_at_call 63; refine (hx _ hv'.out).mono ?_; rintro e w' ⟨n, t, p, rfl, hf⟩; have HF2 := Lib.hid hf; clear hf)
        go_ret2
        exact ⟨rfl, HF2.out⟩
      · clear hz
        go_enter Tryd.func48, Tryd.ntmps48
        go_wp2_with (go_at_call 63; refine (hx _ hv'.out).mono ?_; rintro e w' ⟨n, t, p, rfl, hf⟩; have HF2 := Lib.hid hf; clear hf)
        go_ret2
        exact ⟨rfl, HF2.out⟩

theorem toList_bs (s : ByteArray) : s.toList = bs s := by
  exact ByteArray.toList_eq s
theorem double_c (s : ByteArray) (w : World) : Calls Tryd.prog 64 #[.string s] w fun e w' => e = .returned (.bool (twoL.contains (bs s))) ∧ w' = w := by
  have key : ∀ l, (s.toList == l) = (bs s == l) := fun l => by rw [toList_bs]
  by_cases h0 : bs s = [45, 62]
  · rw [h0, show twoL.contains [45, 62] = true from by decide]
    have f0 : (s.toList == [45, 62]) = true := by rw [key, h0]; decide
    have f1 : (s.toList == [61, 61]) = false := by rw [key, h0]; decide
    have f2 : (s.toList == [33, 61]) = false := by rw [key, h0]; decide
    have f3 : (s.toList == [60, 61]) = false := by rw [key, h0]; decide
    have f4 : (s.toList == [62, 61]) = false := by rw [key, h0]; decide
    have f5 : (s.toList == [38, 38]) = false := by rw [key, h0]; decide
    have f6 : (s.toList == [124, 124]) = false := by rw [key, h0]; decide
    clear key h0
    go_enter Tryd.func64, Tryd.ntmps64
    go_wp2_with fail
    go_ret
    exact ⟨rfl, rfl⟩
  by_cases h1 : bs s = [61, 61]
  · rw [h1, show twoL.contains [61, 61] = true from by decide]
    have f0 : (s.toList == [45, 62]) = false := by rw [key, h1]; decide
    have f1 : (s.toList == [61, 61]) = true := by rw [key, h1]; decide
    have f2 : (s.toList == [33, 61]) = false := by rw [key, h1]; decide
    have f3 : (s.toList == [60, 61]) = false := by rw [key, h1]; decide
    have f4 : (s.toList == [62, 61]) = false := by rw [key, h1]; decide
    have f5 : (s.toList == [38, 38]) = false := by rw [key, h1]; decide
    have f6 : (s.toList == [124, 124]) = false := by rw [key, h1]; decide
    clear key h0 h1
    go_enter Tryd.func64, Tryd.ntmps64
    go_wp2_with fail
    go_ret
    exact ⟨rfl, rfl⟩
  by_cases h2 : bs s = [33, 61]
  · rw [h2, show twoL.contains [33, 61] = true from by decide]
    have f0 : (s.toList == [45, 62]) = false := by rw [key, h2]; decide
    have f1 : (s.toList == [61, 61]) = false := by rw [key, h2]; decide
    have f2 : (s.toList == [33, 61]) = true := by rw [key, h2]; decide
    have f3 : (s.toList == [60, 61]) = false := by rw [key, h2]; decide
    have f4 : (s.toList == [62, 61]) = false := by rw [key, h2]; decide
    have f5 : (s.toList == [38, 38]) = false := by rw [key, h2]; decide
    have f6 : (s.toList == [124, 124]) = false := by rw [key, h2]; decide
    clear key h0 h1 h2
    go_enter Tryd.func64, Tryd.ntmps64
    go_wp2_with fail
    go_ret
    exact ⟨rfl, rfl⟩
  by_cases h3 : bs s = [60, 61]
  · rw [h3, show twoL.contains [60, 61] = true from by decide]
    have f0 : (s.toList == [45, 62]) = false := by rw [key, h3]; decide
    have f1 : (s.toList == [61, 61]) = false := by rw [key, h3]; decide
    have f2 : (s.toList == [33, 61]) = false := by rw [key, h3]; decide
    have f3 : (s.toList == [60, 61]) = true := by rw [key, h3]; decide
    have f4 : (s.toList == [62, 61]) = false := by rw [key, h3]; decide
    have f5 : (s.toList == [38, 38]) = false := by rw [key, h3]; decide
    have f6 : (s.toList == [124, 124]) = false := by rw [key, h3]; decide
    clear key h0 h1 h2 h3
    go_enter Tryd.func64, Tryd.ntmps64
    go_wp2_with fail
    go_ret
    exact ⟨rfl, rfl⟩
  by_cases h4 : bs s = [62, 61]
  · rw [h4, show twoL.contains [62, 61] = true from by decide]
    have f0 : (s.toList == [45, 62]) = false := by rw [key, h4]; decide
    have f1 : (s.toList == [61, 61]) = false := by rw [key, h4]; decide
    have f2 : (s.toList == [33, 61]) = false := by rw [key, h4]; decide
    have f3 : (s.toList == [60, 61]) = false := by rw [key, h4]; decide
    have f4 : (s.toList == [62, 61]) = true := by rw [key, h4]; decide
    have f5 : (s.toList == [38, 38]) = false := by rw [key, h4]; decide
    have f6 : (s.toList == [124, 124]) = false := by rw [key, h4]; decide
    clear key h0 h1 h2 h3 h4
    go_enter Tryd.func64, Tryd.ntmps64
    go_wp2_with fail
    go_ret
    exact ⟨rfl, rfl⟩
  by_cases h5 : bs s = [38, 38]
  · rw [h5, show twoL.contains [38, 38] = true from by decide]
    have f0 : (s.toList == [45, 62]) = false := by rw [key, h5]; decide
    have f1 : (s.toList == [61, 61]) = false := by rw [key, h5]; decide
    have f2 : (s.toList == [33, 61]) = false := by rw [key, h5]; decide
    have f3 : (s.toList == [60, 61]) = false := by rw [key, h5]; decide
    have f4 : (s.toList == [62, 61]) = false := by rw [key, h5]; decide
    have f5 : (s.toList == [38, 38]) = true := by rw [key, h5]; decide
    have f6 : (s.toList == [124, 124]) = false := by rw [key, h5]; decide
    clear key h0 h1 h2 h3 h4 h5
    go_enter Tryd.func64, Tryd.ntmps64
    go_wp2_with fail
    go_ret
    exact ⟨rfl, rfl⟩
  by_cases h6 : bs s = [124, 124]
  · rw [h6, show twoL.contains [124, 124] = true from by decide]
    have f0 : (s.toList == [45, 62]) = false := by rw [key, h6]; decide
    have f1 : (s.toList == [61, 61]) = false := by rw [key, h6]; decide
    have f2 : (s.toList == [33, 61]) = false := by rw [key, h6]; decide
    have f3 : (s.toList == [60, 61]) = false := by rw [key, h6]; decide
    have f4 : (s.toList == [62, 61]) = false := by rw [key, h6]; decide
    have f5 : (s.toList == [38, 38]) = false := by rw [key, h6]; decide
    have f6 : (s.toList == [124, 124]) = true := by rw [key, h6]; decide
    clear key h0 h1 h2 h3 h4 h5 h6
    go_enter Tryd.func64, Tryd.ntmps64
    go_wp2_with fail
    go_ret
    exact ⟨rfl, rfl⟩
  rw [show twoL.contains (bs s) = false from by simp only [twoL, List.contains_cons, List.contains_nil, Bool.or_false, Bool.or_eq_false_iff, beq_eq_false_iff_ne]; exact ⟨h0, h1, h2, h3, h4, h5, h6⟩]
  have f0 : (s.toList == [45, 62]) = false := by rw [key, beq_eq_false_iff_ne]; exact h0
  have f1 : (s.toList == [61, 61]) = false := by rw [key, beq_eq_false_iff_ne]; exact h1
  have f2 : (s.toList == [33, 61]) = false := by rw [key, beq_eq_false_iff_ne]; exact h2
  have f3 : (s.toList == [60, 61]) = false := by rw [key, beq_eq_false_iff_ne]; exact h3
  have f4 : (s.toList == [62, 61]) = false := by rw [key, beq_eq_false_iff_ne]; exact h4
  have f5 : (s.toList == [38, 38]) = false := by rw [key, beq_eq_false_iff_ne]; exact h5
  have f6 : (s.toList == [124, 124]) = false := by rw [key, beq_eq_false_iff_ne]; exact h6
  clear key h0 h1 h2 h3 h4 h5 h6
  go_enter Tryd.func64, Tryd.ntmps64
  go_wp2_with fail
  go_ret
  exact ⟨rfl, rfl⟩

theorem signEnd_c (s : ByteArray) (j : Nat) (w : World) (hj : j < s.size) (hs : s.size ≤ 281474976710656) :
    Calls Tryd.prog 49 #[.string s, .int .i64 j] w fun e w' => e = .returned (.int .i64 (j + signLen ((bs s).drop j) : Nat)) ∧ w' = w := by
  have hd := bs_drop hj
  have hsg := and_sign s[j]
  have hl2 : ((bs s).drop j).length = s.size - j := by rw [List.length_drop, bs_len]
  by_cases h2 : j + 2 ≤ s.size
  · have hx := fun W => double_c (s.extract j (j + 2)) W
    rw [show bs (s.extract j (j + 2)) = ((bs s).drop j).take 2 by rw [bs_extract, List.drop_take]; congr 1; omega] at hx
    have hsl : ∀ W : World, (Instr.slice 9 (.string s) (some (.int .i64 j)) (some (.int .i64 ((j : Int) + 2))) none).run Tryd.prog W = .ok (.string (s.extract j (j + 2))) W := fun W => by
      have h := run_slice_string (P := Tryd.prog) (w := W) 9 s .i64 .i64 j ((j : Int) + 2) Tryd.underlying9 (by omega) (by omega) (by omega)
      rwa [show ((j : Int) + 2).toNat = j + 2 by omega, Int.toNat_natCast] at h
    generalize s.extract j (j + 2) = q at hx hsl
    by_cases h3 : twoL.contains (((bs s).drop j).take 2) = true
    · have hr : signLen ((bs s).drop j) = 2 := by unfold signLen; rw [if_pos h3]
      rw [h3] at hx
      rw [hr]
      clear hr h3 hl2 hsg hd
      go_enter Tryd.func49, Tryd.ntmps49
      go_wp2_with (go_at_call 64; refine (hx _).mono ?_; rintro e w' ⟨rfl, rfl⟩)
      go_ret
      exact ⟨by rw [Int.natCast_add]; rfl, rfl⟩
    · have hr : signLen ((bs s).drop j) = if sgn s[j] then 1 else 0 := by unfold signLen; rw [if_neg h3, hd]
      rw [Bool.not_eq_true] at h3
      rw [h3] at hx
      rw [hr]
      clear hr h3 hl2 hd
      by_cases h4 : sgn s[j] = true
      · rw [if_pos h4] at hsg
        rw [if_pos h4]
        clear h4
        go_enter Tryd.func49, Tryd.ntmps49
        go_wp2_with (first | (go_at_call 64; refine (hx _).mono ?_; rintro e w' ⟨rfl, rfl⟩) | (go_at_call 45; refine (kind_b _ _).mono ?_; rintro e w' ⟨rfl, rfl⟩))
        go_ret
        exact ⟨by rw [Int.natCast_add]; rfl, rfl⟩
      · rw [if_neg h4] at hsg
        rw [if_neg h4]
        clear h4
        go_enter Tryd.func49, Tryd.ntmps49
        go_wp2_with (first | (go_at_call 64; refine (hx _).mono ?_; rintro e w' ⟨rfl, rfl⟩) | (go_at_call 45; refine (kind_b _ _).mono ?_; rintro e w' ⟨rfl, rfl⟩))
        go_ret
        exact ⟨rfl, rfl⟩
  · have hnt : ¬ twoL.contains (((bs s).drop j).take 2) = true := by
      intro h
      have h5 : (((bs s).drop j).take 2).length = 2 := by
        simp only [twoL, List.contains_cons, List.contains_nil, Bool.or_false, Bool.or_eq_true, beq_iff_eq] at h
        rcases h with h | h | h | h | h | h | h <;> rw [h] <;> rfl
      rw [List.length_take, hl2] at h5
      omega
    have hr : signLen ((bs s).drop j) = if sgn s[j] then 1 else 0 := by unfold signLen; rw [if_neg hnt, hd]
    rw [hr]
    clear hr hl2 hd hnt
    by_cases h4 : sgn s[j] = true
    · rw [if_pos h4] at hsg
      rw [if_pos h4]
      clear h4
      go_enter Tryd.func49, Tryd.ntmps49
      go_wp2_with (go_at_call 45; refine (kind_b _ _).mono ?_; rintro e w' ⟨rfl, rfl⟩)
      go_ret
      exact ⟨by rw [Int.natCast_add]; rfl, rfl⟩
    · rw [if_neg h4] at hsg
      rw [if_neg h4]
      clear h4
      go_enter Tryd.func49, Tryd.ntmps49
      go_wp2_with (go_at_call 45; refine (kind_b _ _).mono ?_; rintro e w' ⟨rfl, rfl⟩)
      go_ret
      exact ⟨rfl, rfl⟩
end Go.Proofs.YtdibkgjldmepcaaDoor.Lex
