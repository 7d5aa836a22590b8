/- Name of both; lists of tokens compared. -/
import Derived.Test.YtdibkgjldmepcaaDoorLexW2
import Derived.Test.YtdibkgjldmepcaaDoorLexR4
namespace Go.Proofs.YtdibkgjldmepcaaDoor.Lex
open Go.RowKit Mem
set_option linter.unusedVariables false

/-- A name: neither empty nor too long, no word of the language, of a name's bytes, the first no digit. -/
def nameB (l : Bytes) : Bool := match l with | [] => false | b :: r => decide ((b :: r).length ≤ 24) && !reserved (b :: r) && !dig b && span word (b :: r) == (b :: r).length

set_option maxHeartbeats 1000000 in
theorem name_c (s : ByteArray) (w : World) (hs : s.size ≤ 281474976710656) : Calls Tryd.prog 55 #[.string s] w fun e w' => e = .returned (.bool (nameB (bs s))) ∧ w' = w := by
  have hres := fun W => reserved_c s W
  have hlen := bs_len s
  have key : (s.toList == []) = (bs s == []) := by rw [toList_bs]
  by_cases h0 : s.size = 0
  · have hb : bs s = [] := List.eq_nil_of_length_eq_zero (by omega)
    have e0 : (s.toList == []) = true := by rw [key, hb]; rfl
    have HR := Lib.hid (show nameB (bs s) = false by rw [hb]; rfl)
    clear key hb hlen
    go_enter Tryd.func55, Tryd.ntmps55
    go_wp2_with fail
    go_ret
    rw [HR.out]
    exact ⟨rfl, rfl⟩
  · have h1 : 0 < s.size := by omega
    have hd := bs_drop h1
    rw [List.drop_zero] at hd
    have e0 : (s.toList == []) = false := by rw [key, hd]; rfl
    have hn : nameB (bs s) = (decide (s.size ≤ 24) && !reserved (bs s) && !dig s[0] && span word (bs s) == s.size) := by
      rw [← hlen, hd]; rfl
    have HN := Lib.hid hn
    clear hn key
    by_cases h2 : 24 < s.size
    · have HR := Lib.hid (show nameB (bs s) = false by rw [HN.out, decide_eq_false (by omega)]; rfl)
      clear hlen hd
      go_enter Tryd.func55, Tryd.ntmps55
      go_wp2_with (go_at_call 69; refine (hres _).mono ?_; rintro e w' ⟨rfl, rfl⟩)
      go_ret
      rw [HR.out]
      exact ⟨rfl, rfl⟩
    · cases hr : reserved (bs s) with
      | true =>
        have HR := Lib.hid (show nameB (bs s) = false by rw [HN.out, hr, Bool.not_true, Bool.and_false, Bool.false_and, Bool.false_and])
        rw [hr] at hres
        clear hlen hd hr
        go_enter Tryd.func55, Tryd.ntmps55
        go_wp2_with (go_at_call 69; refine (hres _).mono ?_; rintro e w' ⟨rfl, rfl⟩)
        go_ret
        rw [HR.out]
        exact ⟨rfl, rfl⟩
      | false =>
        rw [hr] at hres
        have hk := fun W => kind_b s[0] W
        have b8 := and_digit s[0]
        have hrun := fun W => run_c s 0 4 word W (by omega) hs and_word (by decide)
        rw [List.drop_zero, Nat.zero_add] at hrun
        have hrun2 : ∀ W, Calls Tryd.prog 47 #[.string s, .int .i64 0, .int .i64 4] W fun e w' => e = .returned (.int .i64 (span word (bs s) : Nat)) ∧ w' = W := hrun
        have hl2 : s.size ≤ 24 := by omega
        by_cases h3 : dig s[0] = true
        · have HR := Lib.hid (show nameB (bs s) = false by rw [HN.out, h3]; simp)
          rw [if_pos h3] at b8
          clear hlen hd hr h3 hrun
          go_enter Tryd.func55, Tryd.ntmps55
          go_wp2_with (first | (go_at_call 69; refine (hres _).mono ?_; rintro e w' ⟨rfl, rfl⟩) | (go_at_call 45; refine (hk _).mono ?_; rintro e w' ⟨rfl, rfl⟩) | (go_at_call 47; refine (hrun2 _).mono ?_; rintro e w' ⟨rfl, rfl⟩))
          go_ret
          rw [HR.out]
          exact ⟨rfl, rfl⟩
        · have HR := Lib.hid (show nameB (bs s) = (span word (bs s) == s.size) by rw [HN.out, hr, decide_eq_true hl2]; rw [Bool.not_eq_true] at h3; rw [h3]; rfl)
          rw [if_neg h3] at b8
          generalize span word (bs s) = k at *
          clear hlen hd hr h3 hrun
          go_enter Tryd.func55, Tryd.ntmps55
          go_wp2_with (first | (go_at_call 69; refine (hres _).mono ?_; rintro e w' ⟨rfl, rfl⟩) | (go_at_call 45; refine (hk _).mono ?_; rintro e w' ⟨rfl, rfl⟩) | (go_at_call 47; refine (hrun2 _).mono ?_; rintro e w' ⟨rfl, rfl⟩))
          go_ret
          rw [HR.out]
          refine ⟨congrArg (fun x => Ending.returned (Value.bool x)) ?_, rfl⟩
          rw [Bool.eq_iff_iff]
          simp
          omega

set_option maxHeartbeats 1000000 in
theorem rname_c (s : ByteArray) (w : World) (hs : s.size ≤ 281474976710656) : Calls Tryd.prog 40 #[.string s] w fun e w' => e = .returned (.bool (nameB (bs s))) ∧ Foot (fun _ => False) w w' := by
  have hres := fun W => rreserved_c s W
  have hlen := bs_len s
  have LT := fun (b : UInt8) W => letter_c b W
  have DG := fun (b : UInt8) W => digit_c b W
  by_cases h0 : s.size = 0
  · have hb : bs s = [] := List.eq_nil_of_length_eq_zero (by omega)
    have HR := Lib.hid (show nameB (bs s) = false by rw [hb]; rfl)
    have h1 : (s.size : Int) = 0 := by omega
    clear hb hlen h0
    go_enter Tryd.func40, Tryd.ntmps40
    go_wp2_with fail
    go_ret
    rw [HR.out]
    exact ⟨rfl, Foot.refl _ _⟩
  · have h1 : 0 < s.size := by omega
    have hd := bs_drop h1
    rw [List.drop_zero] at hd
    have hn : nameB (bs s) = (decide (s.size ≤ 24) && !reserved (bs s) && !dig s[0] && span word (bs s) == s.size) := by
      rw [← hlen, hd]; rfl
    have HN := Lib.hid hn
    have h00 : ((s.size : Int) == 0) = false := by rw [beq_eq_false_iff_ne]; omega
    clear hn
    by_cases h2 : 24 < s.size
    · have HR := Lib.hid (show nameB (bs s) = false by rw [HN.out, decide_eq_false (by omega)]; rfl)
      clear hlen hd
      go_enter Tryd.func40, Tryd.ntmps40
      go_wp2_with (go_at_call 58; refine (LT _ _).mono ?_; rintro e w' ⟨rfl, rfl⟩)
      go_ret
      rw [HR.out]
      exact ⟨rfl, Foot.refl _ _⟩
    · have hl2 : s.size ≤ 24 := by omega
      by_cases h3 : letr s[0] = true
      · have hnd : dig s[0] = false := by
          rw [Bool.eq_false_iff]
          intro h
          have h4 := dig_iff.1 h
          unfold letr at h3
          simp at h3
          omega
        have HN2 : Hid (nameB (bs s) = (!reserved (bs s) && span word (bs s) == s.size)) := Lib.hid (by rw [HN.out, hnd, decide_eq_true hl2]; simp)
        clear HN hnd hd
        go_enter Tryd.func40, Tryd.ntmps40
        go_wp2_with (first | (go_at_call 58; refine (LT _ _).mono ?_; rintro e w' ⟨rfl, rfl⟩))
        go_loopw [3] (fun v wr => ∃ m : Nat, v = .int .i64 m ∧ m ≤ s.size ∧ Hid (span word (bs s) = m + span word ((bs s).drop m)) ∧ wr = w') (fun v _ => s.size - (intOf v).toNat)
        case atStart => exact ⟨0, rfl, by omega, Lib.hid (by simp), rfl⟩
        case round =>
          obtain ⟨m, rfl, hm, HE, rfl⟩ := hrel
          by_cases hlt : m < s.size
          · have hdm := bs_drop hlt
            by_cases hw : word s[m] = true
            · have HE2 : Hid (span word (bs s) = m + 1 + span word ((bs s).drop (m + 1))) := Lib.hid (by
                have h := HE.out
                rw [hdm, span, if_pos hw] at h
                omega)
              clear hdm HE
              by_cases hw1 : letr s[m] = true
              · clear hw
                go_wp2_with (first | (go_at_call 58; refine (LT _ _).mono ?_; rintro e w' ⟨rfl, rfl⟩) | (go_at_call 59; refine (DG _ _).mono ?_; rintro e w' ⟨rfl, rfl⟩))
                refine ⟨⟨m + 1, by go_num, by omega, HE2, trivial⟩, ?_⟩
                simp only [intOf]
                omega
              · have hw2 : dig s[m] = true := by unfold word at hw; rw [Bool.or_eq_true] at hw; exact hw.resolve_left hw1
                rw [Bool.not_eq_true] at hw1
                clear hw
                go_wp2_with (first | (go_at_call 58; refine (LT _ _).mono ?_; rintro e w' ⟨rfl, rfl⟩) | (go_at_call 59; refine (DG _ _).mono ?_; rintro e w' ⟨rfl, rfl⟩))
                refine ⟨⟨m + 1, by go_num, by omega, HE2, trivial⟩, ?_⟩
                simp only [intOf]
                omega
            · have HR := Lib.hid (show nameB (bs s) = false by
                have h := HE.out
                rw [hdm, span, if_neg hw] at h
                rw [HN2.out, h]
                simp
                omega)
              have hw1 : letr s[m] = false := by rw [Bool.eq_false_iff]; intro h; exact hw (by unfold word; rw [h]; rfl)
              have hw2 : dig s[m] = false := by rw [Bool.eq_false_iff]; intro h; exact hw (by unfold word; rw [h, Bool.or_true])
              clear hw hdm HE
              go_wp2_with (first | (go_at_call 58; refine (LT _ _).mono ?_; rintro e w' ⟨rfl, rfl⟩) | (go_at_call 59; refine (DG _ _).mono ?_; rintro e w' ⟨rfl, rfl⟩))
              go_ret
              rw [HR.out]
              exact ⟨rfl, Foot.refl _ _⟩
          · have HR := Lib.hid (show nameB (bs s) = !reserved (bs s) by
              have h := HE.out
              rw [bs_end hlt, span] at h
              rw [HN2.out, h]
              simp
              omega)
            generalize reserved (bs s) = rb at hres HR
            clear HE
            go_wp2_with fail
            refine (hres _).mono ?_
            rintro e w1 ⟨rfl, hf⟩
            have HF := Lib.hid hf
            clear hf
            go_wp2_with fail
            go_ret
            rw [HR.out]
            exact ⟨rfl, HF.out⟩
      · have HR := Lib.hid (show nameB (bs s) = false by
          rw [HN.out, Bool.eq_false_iff]
          intro h
          simp only [Bool.and_eq_true, Bool.not_eq_true', beq_iff_eq, decide_eq_true_eq] at h
          obtain ⟨⟨⟨_, _⟩, h6⟩, h7⟩ := h
          have h8 : word s[0] = true := by
            cases h9 : word s[0] with
            | true => rfl
            | false =>
              rw [hd, span, if_neg (by rw [h9]; decide)] at h7
              omega
          unfold word at h8
          rw [h6, Bool.or_false] at h8
          exact h3 h8)
        rw [Bool.not_eq_true] at h3
        clear hlen hd HN
        go_enter Tryd.func40, Tryd.ntmps40
        go_wp2_with (go_at_call 58; refine (LT _ _).mono ?_; rintro e w' ⟨rfl, rfl⟩)
        go_ret
        rw [HR.out]
        exact ⟨rfl, Foot.refl _ _⟩

theorem flatT_get : ∀ (ts : List Tok) (k : Nat) (h : k < ts.length), ∀ j, j < 5 → (flatT ts)[k * 5 + j]? = (flat1 (ts[k]))[j]?
  | [], k, h, _, _ => by simp at h
  | t :: ts, 0, h, j, hj => by
    rw [Nat.zero_mul, Nat.zero_add, flatT, List.getElem?_append_left (by simpa [flat1] using hj)]
    rfl
  | t :: ts, k + 1, h, j, hj => by
    rw [flatT, List.getElem?_append_right (by simp [flat1]; omega), show (k + 1) * 5 + j - (flat1 t).length = k * 5 + j by simp [flat1]; omega]
    exact flatT_get ts k (by simpa using h) j hj
/-- A list of tokens in memory: the cells of its k-th. -/
theorem tok_cells {w : World} {a : Option Addr} {n c : Nat} {ts : List Tok} (h : Items w 72 5 (.slice a n c) n (flatT ts)) (hn : ts.length = n) {k : Nat} (hk : k < n) :
    ∃ g off, a = some ⟨g, off, none⟩ ∧ w.cell? ⟨g, off + k * 5, none⟩ = some (.int .i64 (ts[k]'(by omega)).kind) ∧ w.cell? ⟨g, off + k * 5 + 1, none⟩ = some (.int .i64 (ts[k]'(by omega)).at_) ∧
      w.cell? ⟨g, off + k * 5 + 2, none⟩ = some (.int .i64 (ts[k]'(by omega)).en) ∧ w.cell? ⟨g, off + k * 5 + 3, none⟩ = some (strV (ts[k]'(by omega)).text) ∧ w.cell? ⟨g, off + k * 5 + 4, none⟩ = some (.int .i64 (ts[k]'(by omega)).n) := by
  obtain ⟨g, off, cap, hv, _, _, _, hc⟩ := h.cell (by omega)
  have hf := flatT_get ts k (by omega)
  refine ⟨g, off, by injection hv, ?_, ?_, ?_, ?_, ?_⟩
  · have := hf 0 (by omega); rw [hc _ (by omega)]; exact this
  · have := hf 1 (by omega); rw [Nat.add_assoc, hc _ (by omega)]; exact this
  · have := hf 2 (by omega); rw [Nat.add_assoc, hc _ (by omega)]; exact this
  · have := hf 3 (by omega); rw [Nat.add_assoc, hc _ (by omega)]; exact this
  · have := hf 4 (by omega); rw [Nat.add_assoc, hc _ (by omega)]; exact this

end Go.Proofs.YtdibkgjldmepcaaDoor.Lex
