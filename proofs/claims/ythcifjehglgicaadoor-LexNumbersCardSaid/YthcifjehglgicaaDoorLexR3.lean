/- The reference's token. -/
import Derived.Test.YthcifjehglgicaaDoorLexR2
namespace Go.Proofs.YthcifjehglgicaaDoor.Lex
open Go.RowKit Mem
set_option linter.unusedVariables false

def noTok' : Value := .agg #[.int .i64 0, .int .i64 0, .int .i64 0, .string ⟨#[]⟩, .int .i64 0]
theorem tok_letr {i : Nat} {l : Bytes} {b : UInt8} {r : Bytes} (hd : l = b :: r) (h1 : letr b = true) :
    tokRes i l = if 24 < span word l then (noTok, 13) else (tokAgg ⟨1, i, i + span word l, l.take (span word l), 0⟩, 0) := by
  have h2 : ¬ dig b = true := by
    intro h
    have h3 := dig_iff.1 h
    unfold letr at h1
    simp at h1
    omega
  unfold tokRes
  rw [hd]
  unfold tokN
  simp only
  rw [if_neg h2, if_pos h1]
  by_cases h3 : 24 < span word (b :: r)
  · rw [if_pos h3, if_pos h3]; rfl
  · rw [if_neg h3, if_neg h3]
theorem tok_sign {i : Nat} {l : Bytes} {b : UInt8} {r : Bytes} (hd : l = b :: r) (h1 : ¬ letr b = true) (h2 : ¬ dig b = true) :
    tokRes i l = if signLen l = 0 then (noTok, 10) else (tokAgg ⟨3, i, i + signLen l, l.take (signLen l), 0⟩, 0) := by
  unfold tokRes
  rw [hd]
  unfold tokN
  simp only
  rw [if_neg h2, if_neg h1]
  by_cases h3 : signLen (b :: r) = 0
  · rw [if_pos h3, if_pos h3]; rfl
  · rw [if_neg h3, if_neg h3]
/-- numV and okV side by side. -/
theorem num_ok {l : Bytes} {b : UInt8} {r : Bytes} (hd : l = b :: r) : numV l = if 1 < l.length ∧ b.toNat = 48 then (0, 11) else if (okV l).2 then ((okV l).1, 0) else (0, 16) := by
  unfold numV okV
  rw [show l.head?.map (·.toNat) = some b.toNat by rw [hd]; rfl]
  simp only [Option.some.injEq]
  by_cases h : 1 < l.length ∧ b.toNat = 48
  · rw [if_pos h, if_pos h]
  · rw [if_neg h, if_neg h]
    cases valN l with
    | none => simp
    | some n => simp

set_option maxHeartbeats 4000000 in
theorem one_c (s : ByteArray) (i : Nat) (w : World) (hi : i < s.size) (hs : s.size ≤ 281474976710656) :
    Calls Tryd.prog 24 #[.string s, .int .i64 i] w fun e w' => e = .returned (.tuple #[(tokRes i ((bs s).drop i)).1, .int .i64 (tokRes i ((bs s).drop i)).2]) ∧ Foot (fun _ => False) w w' := by
  have hd := bs_drop hi
  have hl : ((bs s).drop i).length = s.size - i := by rw [List.length_drop, bs_len]
  have LT := fun (b : UInt8) W => letter_c b W
  have DG := fun (b : UInt8) W => digit_c b W
  by_cases h1 : letr s[i] = true
  · have htok := tok_letr (i := i) hd h1
    have hsp := span_le word ((bs s).drop i)
    have hsp1 : 1 ≤ span word ((bs s).drop i) := by rw [hd]; unfold span; rw [if_pos (show word s[i] = true by unfold word; rw [h1]; rfl)]; omega
    rw [hl] at hsp
    have HK := Lib.hid (rfl : span word ((bs s).drop i) = span word ((bs s).drop i))
    generalize hkk : span word ((bs s).drop i) = k at htok hsp hsp1
    have HKK := Lib.hid hkk
    obtain ⟨q, hq1, hq2, hq⟩ := piece s i k (by omega)
    have hq := fun W => hq W ((i : Int) + k) (by rw [Int.natCast_add])
    rw [← hq1] at htok
    have HT := Lib.hid htok
    have HQ := Lib.hid hq1
    clear htok hkk HK hd hl hq1
    go_enter Tryd.func24, Tryd.ntmps24
    go_wp2_with (go_at_call 29; refine (LT _ _).mono ?_; rintro e w' ⟨rfl, rfl⟩)
    go_loopw [6] (fun v wr => ∃ m : Nat, v = .int .i64 m ∧ i ≤ m ∧ m ≤ s.size ∧ Hid (i + span word ((bs s).drop i) = m + span word ((bs s).drop m)) ∧ wr = (w.alloc (.cells #[.int .i64 0, .int .i64 0, .int .i64 0, .string ⟨#[]⟩, .int .i64 0] 36)).alloc (.cells #[.int .i64 0, .int .i64 i, .int .i64 0, .string ⟨#[]⟩, .int .i64 0] 36)) (fun v _ => s.size - (intOf v).toNat)
    case atStart => exact ⟨i, rfl, Nat.le_refl _, by omega, Lib.hid rfl, rfl⟩
    case round =>
      obtain ⟨m, rfl, him, hm, HE, rfl⟩ := hrel
      by_cases hlt : m < s.size
      · have hdm := bs_drop hlt
        by_cases hw : word s[m] = true
        · have HE2 : Hid (i + span word ((bs s).drop i) = m + 1 + span word ((bs s).drop (m + 1))) := Lib.hid (by
            have h := HE.out
            rw [hdm, span, if_pos hw] at h
            omega)
          clear hdm HE
          by_cases hw1 : letr s[m] = true
          · clear hw
            go_wp2_with (first | (go_at_call 29; refine (LT _ _).mono ?_; rintro e w' ⟨rfl, rfl⟩) | (go_at_call 30; refine (DG _ _).mono ?_; rintro e w' ⟨rfl, rfl⟩))
            refine ⟨⟨m + 1, by go_num, by omega, by omega, HE2, trivial⟩, ?_⟩
            simp only [intOf]
            omega
          · have hw2 : dig s[m] = true := by unfold word at hw; rw [Bool.or_eq_true] at hw; exact hw.resolve_left hw1
            rw [Bool.not_eq_true] at hw1
            clear hw
            go_wp2_with (first | (go_at_call 29; refine (LT _ _).mono ?_; rintro e w' ⟨rfl, rfl⟩) | (go_at_call 30; refine (DG _ _).mono ?_; rintro e w' ⟨rfl, rfl⟩))
            refine ⟨⟨m + 1, by go_num, by omega, by omega, HE2, trivial⟩, ?_⟩
            simp only [intOf]
            omega
        · obtain rfl : m = i + k := by
            have h := HE.out
            rw [hdm, span, if_neg hw, HKK.out] at h
            omega
          have hw1 : letr s[i + k] = false := by rw [Bool.eq_false_iff]; intro h; exact hw (by unfold word; rw [h]; rfl)
          have hw2 : dig s[i + k] = false := by rw [Bool.eq_false_iff]; intro h; exact hw (by unfold word; rw [h, Bool.or_true])
          clear hw hdm HE HKK
          by_cases h3 : 24 < k
          · have HR := Lib.hid (show tokRes i ((bs s).drop i) = (noTok, 13) by rw [HT.out, if_pos h3])
            clear HT
            go_wp2_with (first | (go_at_call 29; refine (LT _ _).mono ?_; rintro e w' ⟨rfl, rfl⟩) | (go_at_call 30; refine (DG _ _).mono ?_; rintro e w' ⟨rfl, rfl⟩))
            refine bodyPost_ret (v := .tuple #[.agg #[.int .i64 0, .int .i64 0, .int .i64 0, .string ⟨#[]⟩, .int .i64 0], .int .i64 13]) (by simp [results, Tryd.results24, go_sem, *]) rfl ⟨?_, ((Foot.refl _ w).alloc _).alloc _⟩
            rw [HR.out]
            rfl
          · have HR := Lib.hid (show tokRes i ((bs s).drop i) = (tokAgg ⟨1, i, i + k, bs q, 0⟩, 0) by rw [HT.out, if_neg h3])
            clear HT
            go_wp2_with (first | (go_at_call 29; refine (LT _ _).mono ?_; rintro e w' ⟨rfl, rfl⟩) | (go_at_call 30; refine (DG _ _).mono ?_; rintro e w' ⟨rfl, rfl⟩))
            obtain ⟨ha, hb, hF, hz⟩ := two (Foot.refl (fun _ => False) ((w.alloc (.cells #[.int .i64 0, .int .i64 0, .int .i64 0, .string ⟨#[]⟩, .int .i64 0] 36)).alloc (.cells #[.int .i64 1, .int .i64 i, .int .i64 0, .string ⟨#[]⟩, .int .i64 0] 36)))
            generalize (w.alloc (.cells #[.int .i64 0, .int .i64 0, .int .i64 0, .string ⟨#[]⟩, .int .i64 0] 36)).alloc (.cells #[.int .i64 1, .int .i64 i, .int .i64 0, .string ⟨#[]⟩, .int .i64 0] 36) = W2 at *
            obtain ⟨c0, c1, c2, c3, c4⟩ := cells5 ha
            obtain ⟨f0, f1, f2, f3, f4⟩ := free5 ha
            obtain ⟨d0, d1, d2, d3, d4⟩ := cells5 hb
            obtain ⟨g0, g1, g2, g3, g4⟩ := free5 hb
            have HF := Lib.hid hF
            clear ha hb hF
            go_region
            go_wp2_with fail
            refine bodyPost_ret (v := .tuple #[.agg #[.int .i64 1, .int .i64 i, .int .i64 ((i + k : Nat) : Int), .string q, .int .i64 0], .int .i64 0]) (by simp [results, Tryd.results24, go_sem, *]) rfl ⟨?_, ?_⟩
            · rw [HR.out]
              unfold tokAgg
              simp only
              rw [← q_str rfl]
            · exact (Foot.setCell (Foot.setCell (Foot.setCell (Foot.setCell (Foot.setCell (Foot.setCell (Foot.setCell HF.out (p := ⟨w.heap.size + 1, 2, none⟩) (fun h => absurd h (by simp only; omega)) _) (p := ⟨w.heap.size + 1, 3, none⟩) (fun h => absurd h (by simp only; omega)) _) (p := ⟨w.heap.size, 0, none⟩) (fun h => absurd h (by simp only; omega)) _) (p := ⟨w.heap.size, 1, none⟩) (fun h => absurd h (by simp only; omega)) _) (p := ⟨w.heap.size, 2, none⟩) (fun h => absurd h (by simp only; omega)) _) (p := ⟨w.heap.size, 3, none⟩) (fun h => absurd h (by simp only; omega)) _) (p := ⟨w.heap.size, 4, none⟩) (fun h => absurd h (by simp only; omega)) _).drew
      · obtain rfl : m = i + k := by
          have h := HE.out
          rw [bs_end hlt, span, HKK.out] at h
          omega
        clear HE HKK
        by_cases h3 : 24 < k
        · have HR := Lib.hid (show tokRes i ((bs s).drop i) = (noTok, 13) by rw [HT.out, if_pos h3])
          clear HT
          go_wp2_with (first | (go_at_call 29; refine (LT _ _).mono ?_; rintro e w' ⟨rfl, rfl⟩) | (go_at_call 30; refine (DG _ _).mono ?_; rintro e w' ⟨rfl, rfl⟩))
          refine bodyPost_ret (v := .tuple #[.agg #[.int .i64 0, .int .i64 0, .int .i64 0, .string ⟨#[]⟩, .int .i64 0], .int .i64 13]) (by simp [results, Tryd.results24, go_sem, *]) rfl ⟨?_, ((Foot.refl _ w).alloc _).alloc _⟩
          rw [HR.out]
          rfl
        · have HR := Lib.hid (show tokRes i ((bs s).drop i) = (tokAgg ⟨1, i, i + k, bs q, 0⟩, 0) by rw [HT.out, if_neg h3])
          clear HT
          go_wp2_with (first | (go_at_call 29; refine (LT _ _).mono ?_; rintro e w' ⟨rfl, rfl⟩) | (go_at_call 30; refine (DG _ _).mono ?_; rintro e w' ⟨rfl, rfl⟩))
          obtain ⟨ha, hb, hF, hz⟩ := two (Foot.refl (fun _ => False) ((w.alloc (.cells #[.int .i64 0, .int .i64 0, .int .i64 0, .string ⟨#[]⟩, .int .i64 0] 36)).alloc (.cells #[.int .i64 1, .int .i64 i, .int .i64 0, .string ⟨#[]⟩, .int .i64 0] 36)))
          generalize (w.alloc (.cells #[.int .i64 0, .int .i64 0, .int .i64 0, .string ⟨#[]⟩, .int .i64 0] 36)).alloc (.cells #[.int .i64 1, .int .i64 i, .int .i64 0, .string ⟨#[]⟩, .int .i64 0] 36) = W2 at *
          obtain ⟨c0, c1, c2, c3, c4⟩ := cells5 ha
          obtain ⟨f0, f1, f2, f3, f4⟩ := free5 ha
          obtain ⟨d0, d1, d2, d3, d4⟩ := cells5 hb
          obtain ⟨g0, g1, g2, g3, g4⟩ := free5 hb
          have HF := Lib.hid hF
          clear ha hb hF
          go_region
          go_wp2_with fail
          refine bodyPost_ret (v := .tuple #[.agg #[.int .i64 1, .int .i64 i, .int .i64 ((i + k : Nat) : Int), .string q, .int .i64 0], .int .i64 0]) (by simp [results, Tryd.results24, go_sem, *]) rfl ⟨?_, ?_⟩
          · rw [HR.out]
            unfold tokAgg
            simp only
            rw [← q_str rfl]
          · exact (Foot.setCell (Foot.setCell (Foot.setCell (Foot.setCell (Foot.setCell (Foot.setCell (Foot.setCell HF.out (p := ⟨w.heap.size + 1, 2, none⟩) (fun h => absurd h (by simp only; omega)) _) (p := ⟨w.heap.size + 1, 3, none⟩) (fun h => absurd h (by simp only; omega)) _) (p := ⟨w.heap.size, 0, none⟩) (fun h => absurd h (by simp only; omega)) _) (p := ⟨w.heap.size, 1, none⟩) (fun h => absurd h (by simp only; omega)) _) (p := ⟨w.heap.size, 2, none⟩) (fun h => absurd h (by simp only; omega)) _) (p := ⟨w.heap.size, 3, none⟩) (fun h => absurd h (by simp only; omega)) _) (p := ⟨w.heap.size, 4, none⟩) (fun h => absurd h (by simp only; omega)) _).drew
  · rw [Bool.not_eq_true] at h1
    by_cases h2 : dig s[i] = true
    · have htok := tok_dig (i := i) hd h2
      have hnum := num_ok (l := ((bs s).drop i).take (span dig ((bs s).drop i))) (b := s[i]) (r := (((bs s).drop i).take (span dig ((bs s).drop i))).tail) (by
        have hpos : 1 ≤ span dig ((bs s).drop i) := by rw [hd]; unfold span; rw [if_pos h2]; omega
        rw [show span dig ((bs s).drop i) = (span dig ((bs s).drop i) - 1) + 1 by omega]
        rw [hd, List.take_succ_cons]; rfl)
      have hsp := span_le dig ((bs s).drop i)
      have hsp1 : 1 ≤ span dig ((bs s).drop i) := by rw [hd]; unfold span; rw [if_pos h2]; omega
      have hall := span_all dig ((bs s).drop i)
      rw [hl] at hsp
      generalize hkk : span dig ((bs s).drop i) = k at htok hsp hsp1 hall hnum
      have HKK := Lib.hid hkk
      obtain ⟨q, hq1, hq2, hq⟩ := piece s i k (by omega)
      have hq := fun W => hq W ((i : Int) + k) (by rw [Int.natCast_add])
      rw [← hq1] at htok hall hnum
      rw [bs_len, hq2] at hnum
      have hx := fun W => rvalue_c q W (by omega) hall
      have HT := Lib.hid htok
      have HM := Lib.hid hnum
      generalize okV (bs q) = z at hx HM
      obtain ⟨n, ok⟩ := z
      simp only at hx
      clear htok hkk hd hl hq1 hall hnum
      go_enter Tryd.func24, Tryd.ntmps24
      go_wp2_with (first | (go_at_call 29; refine (LT _ _).mono ?_; rintro e w' ⟨rfl, rfl⟩) | (go_at_call 30; refine (DG _ _).mono ?_; rintro e w' ⟨rfl, rfl⟩))
      go_loopw [6] (fun v wr => ∃ m : Nat, v = .int .i64 m ∧ i ≤ m ∧ m ≤ s.size ∧ Hid (i + span dig ((bs s).drop i) = m + span dig ((bs s).drop m)) ∧ wr = (w.alloc (.cells #[.int .i64 0, .int .i64 0, .int .i64 0, .string ⟨#[]⟩, .int .i64 0] 36)).alloc (.cells #[.int .i64 0, .int .i64 i, .int .i64 0, .string ⟨#[]⟩, .int .i64 0] 36)) (fun v _ => s.size - (intOf v).toNat)
      case atStart => exact ⟨i, rfl, Nat.le_refl _, by omega, Lib.hid rfl, rfl⟩
      case round =>
        obtain ⟨m, rfl, him, hm, HE, rfl⟩ := hrel
        by_cases hlt : m < s.size
        · have hdm := bs_drop hlt
          by_cases hw : dig s[m] = true
          · have HE2 : Hid (i + span dig ((bs s).drop i) = m + 1 + span dig ((bs s).drop (m + 1))) := Lib.hid (by
              have h := HE.out
              rw [hdm, span, if_pos hw] at h
              omega)
            clear hdm HE
            go_wp2_with (first | (go_at_call 29; refine (LT _ _).mono ?_; rintro e w' ⟨rfl, rfl⟩) | (go_at_call 30; refine (DG _ _).mono ?_; rintro e w' ⟨rfl, rfl⟩))
            refine ⟨⟨m + 1, by go_num, by omega, by omega, HE2, trivial⟩, ?_⟩
            simp only [intOf]
            omega
          · obtain rfl : m = i + k := by
              have h := HE.out
              rw [hdm, span, if_neg hw, HKK.out] at h
              omega
            have hw1 : dig s[i + k] = false := by rw [Bool.not_eq_true] at hw; exact hw
            clear hw hdm HE HKK
            by_cases h3 : 1 < k ∧ s[i].toNat = 48
            · have HR := Lib.hid (show tokRes i ((bs s).drop i) = (noTok, 11) by rw [HT.out, HM.out, if_pos h3, if_neg (by decide)])
              clear HT HM
              obtain ⟨h4, h5⟩ := h3
              have h6 : ((s[i].toNat : Int) == 48) = true := by rw [h5]; rfl
              clear h5
              go_wp2_with (first | (go_at_call 29; refine (LT _ _).mono ?_; rintro e w' ⟨rfl, rfl⟩) | (go_at_call 30; refine (DG _ _).mono ?_; rintro e w' ⟨rfl, rfl⟩) | (go_at_call 35; refine (hx _).mono ?_; rintro e w' ⟨rfl, rfl⟩))
              refine bodyPost_ret (v := .tuple #[.agg #[.int .i64 0, .int .i64 0, .int .i64 0, .string ⟨#[]⟩, .int .i64 0], .int .i64 11]) (by simp [results, Tryd.results24, go_sem, *]) rfl ⟨?_, ((Foot.refl _ w).alloc _).alloc _⟩
              rw [HR.out]
              rfl
            · cases ok with
              | false =>
                have HR := Lib.hid (show tokRes i ((bs s).drop i) = (noTok, 16) by rw [HT.out, HM.out, if_neg h3]; rfl)
                clear HT HM
                by_cases h4 : 1 < k
                · have h6 : ((s[i].toNat : Int) == 48) = false := by rw [beq_eq_false_iff_ne]; intro h; exact h3 ⟨h4, by omega⟩
                  clear h3
                  go_wp2_with (first | (go_at_call 29; refine (LT _ _).mono ?_; rintro e w' ⟨rfl, rfl⟩) | (go_at_call 30; refine (DG _ _).mono ?_; rintro e w' ⟨rfl, rfl⟩) | (go_at_call 35; refine (hx _).mono ?_; rintro e w' ⟨rfl, rfl⟩))
                  refine bodyPost_ret (v := .tuple #[.agg #[.int .i64 0, .int .i64 0, .int .i64 0, .string ⟨#[]⟩, .int .i64 0], .int .i64 16]) (by simp [results, Tryd.results24, go_sem, *]) rfl ⟨?_, ((Foot.refl _ w).alloc _).alloc _⟩
                  rw [HR.out]
                  rfl
                · clear h3
                  go_wp2_with (first | (go_at_call 29; refine (LT _ _).mono ?_; rintro e w' ⟨rfl, rfl⟩) | (go_at_call 30; refine (DG _ _).mono ?_; rintro e w' ⟨rfl, rfl⟩) | (go_at_call 35; refine (hx _).mono ?_; rintro e w' ⟨rfl, rfl⟩))
                  refine bodyPost_ret (v := .tuple #[.agg #[.int .i64 0, .int .i64 0, .int .i64 0, .string ⟨#[]⟩, .int .i64 0], .int .i64 16]) (by simp [results, Tryd.results24, go_sem, *]) rfl ⟨?_, ((Foot.refl _ w).alloc _).alloc _⟩
                  rw [HR.out]
                  rfl
              | true =>
                have HR := Lib.hid (show tokRes i ((bs s).drop i) = (tokAgg ⟨2, i, i + k, bs q, n⟩, 0) by rw [HT.out, HM.out, if_neg h3]; rfl)
                clear HT HM
                by_cases h4 : 1 < k
                · have h6 : ((s[i].toNat : Int) == 48) = false := by rw [beq_eq_false_iff_ne]; intro h; exact h3 ⟨h4, by omega⟩
                  clear h3
                  go_wp2_with (first | (go_at_call 29; refine (LT _ _).mono ?_; rintro e w' ⟨rfl, rfl⟩) | (go_at_call 30; refine (DG _ _).mono ?_; rintro e w' ⟨rfl, rfl⟩) | (go_at_call 35; refine (hx _).mono ?_; rintro e w' ⟨rfl, rfl⟩))
                  obtain ⟨ha, hb, hF, hz⟩ := two (Foot.refl (fun _ => False) ((w.alloc (.cells #[.int .i64 0, .int .i64 0, .int .i64 0, .string ⟨#[]⟩, .int .i64 0] 36)).alloc (.cells #[.int .i64 2, .int .i64 i, .int .i64 0, .string ⟨#[]⟩, .int .i64 n] 36)))
                  generalize (w.alloc (.cells #[.int .i64 0, .int .i64 0, .int .i64 0, .string ⟨#[]⟩, .int .i64 0] 36)).alloc (.cells #[.int .i64 2, .int .i64 i, .int .i64 0, .string ⟨#[]⟩, .int .i64 n] 36) = W2 at *
                  obtain ⟨c0, c1, c2, c3, c4⟩ := cells5 ha
                  obtain ⟨f0, f1, f2, f3, f4⟩ := free5 ha
                  obtain ⟨d0, d1, d2, d3, d4⟩ := cells5 hb
                  obtain ⟨g0, g1, g2, g3, g4⟩ := free5 hb
                  have HF := Lib.hid hF
                  clear ha hb hF
                  go_region
                  go_wp2_with fail
                  refine bodyPost_ret (v := .tuple #[.agg #[.int .i64 2, .int .i64 i, .int .i64 ((i + k : Nat) : Int), .string q, .int .i64 n], .int .i64 0]) (by simp [results, Tryd.results24, go_sem, *]) rfl ⟨?_, ?_⟩
                  · rw [HR.out]
                    unfold tokAgg
                    simp only
                    rw [← q_str rfl]
                  · exact (Foot.setCell (Foot.setCell (Foot.setCell (Foot.setCell (Foot.setCell (Foot.setCell (Foot.setCell HF.out (p := ⟨w.heap.size + 1, 2, none⟩) (fun h => absurd h (by simp only; omega)) _) (p := ⟨w.heap.size + 1, 3, none⟩) (fun h => absurd h (by simp only; omega)) _) (p := ⟨w.heap.size, 0, none⟩) (fun h => absurd h (by simp only; omega)) _) (p := ⟨w.heap.size, 1, none⟩) (fun h => absurd h (by simp only; omega)) _) (p := ⟨w.heap.size, 2, none⟩) (fun h => absurd h (by simp only; omega)) _) (p := ⟨w.heap.size, 3, none⟩) (fun h => absurd h (by simp only; omega)) _) (p := ⟨w.heap.size, 4, none⟩) (fun h => absurd h (by simp only; omega)) _).drew
                · clear h3
                  go_wp2_with (first | (go_at_call 29; refine (LT _ _).mono ?_; rintro e w' ⟨rfl, rfl⟩) | (go_at_call 30; refine (DG _ _).mono ?_; rintro e w' ⟨rfl, rfl⟩) | (go_at_call 35; refine (hx _).mono ?_; rintro e w' ⟨rfl, rfl⟩))
                  obtain ⟨ha, hb, hF, hz⟩ := two (Foot.refl (fun _ => False) ((w.alloc (.cells #[.int .i64 0, .int .i64 0, .int .i64 0, .string ⟨#[]⟩, .int .i64 0] 36)).alloc (.cells #[.int .i64 2, .int .i64 i, .int .i64 0, .string ⟨#[]⟩, .int .i64 n] 36)))
                  generalize (w.alloc (.cells #[.int .i64 0, .int .i64 0, .int .i64 0, .string ⟨#[]⟩, .int .i64 0] 36)).alloc (.cells #[.int .i64 2, .int .i64 i, .int .i64 0, .string ⟨#[]⟩, .int .i64 n] 36) = W2 at *
                  obtain ⟨c0, c1, c2, c3, c4⟩ := cells5 ha
                  obtain ⟨f0, f1, f2, f3, f4⟩ := free5 ha
                  obtain ⟨d0, d1, d2, d3, d4⟩ := cells5 hb
                  obtain ⟨g0, g1, g2, g3, g4⟩ := free5 hb
                  have HF := Lib.hid hF
                  clear ha hb hF
                  go_region
                  go_wp2_with fail
                  refine bodyPost_ret (v := .tuple #[.agg #[.int .i64 2, .int .i64 i, .int .i64 ((i + k : Nat) : Int), .string q, .int .i64 n], .int .i64 0]) (by simp [results, Tryd.results24, go_sem, *]) rfl ⟨?_, ?_⟩
                  · rw [HR.out]
                    unfold tokAgg
                    simp only
                    rw [← q_str rfl]
                  · exact (Foot.setCell (Foot.setCell (Foot.setCell (Foot.setCell (Foot.setCell (Foot.setCell (Foot.setCell HF.out (p := ⟨w.heap.size + 1, 2, none⟩) (fun h => absurd h (by simp only; omega)) _) (p := ⟨w.heap.size + 1, 3, none⟩) (fun h => absurd h (by simp only; omega)) _) (p := ⟨w.heap.size, 0, none⟩) (fun h => absurd h (by simp only; omega)) _) (p := ⟨w.heap.size, 1, none⟩) (fun h => absurd h (by simp only; omega)) _) (p := ⟨w.heap.size, 2, none⟩) (fun h => absurd h (by simp only; omega)) _) (p := ⟨w.heap.size, 3, none⟩) (fun h => absurd h (by simp only; omega)) _) (p := ⟨w.heap.size, 4, none⟩) (fun h => absurd h (by simp only; omega)) _).drew
        · obtain rfl : m = i + k := by
            have h := HE.out
            rw [bs_end hlt, span, HKK.out] at h
            omega
          clear HE HKK
          by_cases h3 : 1 < k ∧ s[i].toNat = 48
          · have HR := Lib.hid (show tokRes i ((bs s).drop i) = (noTok, 11) by rw [HT.out, HM.out, if_pos h3, if_neg (by decide)])
            clear HT HM
            obtain ⟨h4, h5⟩ := h3
            have h6 : ((s[i].toNat : Int) == 48) = true := by rw [h5]; rfl
            clear h5
            go_wp2_with (first | (go_at_call 29; refine (LT _ _).mono ?_; rintro e w' ⟨rfl, rfl⟩) | (go_at_call 30; refine (DG _ _).mono ?_; rintro e w' ⟨rfl, rfl⟩) | (go_at_call 35; refine (hx _).mono ?_; rintro e w' ⟨rfl, rfl⟩))
            refine bodyPost_ret (v := .tuple #[.agg #[.int .i64 0, .int .i64 0, .int .i64 0, .string ⟨#[]⟩, .int .i64 0], .int .i64 11]) (by simp [results, Tryd.results24, go_sem, *]) rfl ⟨?_, ((Foot.refl _ w).alloc _).alloc _⟩
            rw [HR.out]
            rfl
          · cases ok with
            | false =>
              have HR := Lib.hid (show tokRes i ((bs s).drop i) = (noTok, 16) by rw [HT.out, HM.out, if_neg h3]; rfl)
              clear HT HM
              by_cases h4 : 1 < k
              · have h6 : ((s[i].toNat : Int) == 48) = false := by rw [beq_eq_false_iff_ne]; intro h; exact h3 ⟨h4, by omega⟩
                clear h3
                go_wp2_with (first | (go_at_call 29; refine (LT _ _).mono ?_; rintro e w' ⟨rfl, rfl⟩) | (go_at_call 30; refine (DG _ _).mono ?_; rintro e w' ⟨rfl, rfl⟩) | (go_at_call 35; refine (hx _).mono ?_; rintro e w' ⟨rfl, rfl⟩))
                refine bodyPost_ret (v := .tuple #[.agg #[.int .i64 0, .int .i64 0, .int .i64 0, .string ⟨#[]⟩, .int .i64 0], .int .i64 16]) (by simp [results, Tryd.results24, go_sem, *]) rfl ⟨?_, ((Foot.refl _ w).alloc _).alloc _⟩
                rw [HR.out]
                rfl
              · clear h3
                go_wp2_with (first | (go_at_call 29; refine (LT _ _).mono ?_; rintro e w' ⟨rfl, rfl⟩) | (go_at_call 30; refine (DG _ _).mono ?_; rintro e w' ⟨rfl, rfl⟩) | (go_at_call 35; refine (hx _).mono ?_; rintro e w' ⟨rfl, rfl⟩))
                refine bodyPost_ret (v := .tuple #[.agg #[.int .i64 0, .int .i64 0, .int .i64 0, .string ⟨#[]⟩, .int .i64 0], .int .i64 16]) (by simp [results, Tryd.results24, go_sem, *]) rfl ⟨?_, ((Foot.refl _ w).alloc _).alloc _⟩
                rw [HR.out]
                rfl
            | true =>
              have HR := Lib.hid (show tokRes i ((bs s).drop i) = (tokAgg ⟨2, i, i + k, bs q, n⟩, 0) by rw [HT.out, HM.out, if_neg h3]; rfl)
              clear HT HM
              by_cases h4 : 1 < k
              · have h6 : ((s[i].toNat : Int) == 48) = false := by rw [beq_eq_false_iff_ne]; intro h; exact h3 ⟨h4, by omega⟩
                clear h3
                go_wp2_with (first | (go_at_call 29; refine (LT _ _).mono ?_; rintro e w' ⟨rfl, rfl⟩) | (go_at_call 30; refine (DG _ _).mono ?_; rintro e w' ⟨rfl, rfl⟩) | (go_at_call 35; refine (hx _).mono ?_; rintro e w' ⟨rfl, rfl⟩))
                obtain ⟨ha, hb, hF, hz⟩ := two (Foot.refl (fun _ => False) ((w.alloc (.cells #[.int .i64 0, .int .i64 0, .int .i64 0, .string ⟨#[]⟩, .int .i64 0] 36)).alloc (.cells #[.int .i64 2, .int .i64 i, .int .i64 0, .string ⟨#[]⟩, .int .i64 n] 36)))
                generalize (w.alloc (.cells #[.int .i64 0, .int .i64 0, .int .i64 0, .string ⟨#[]⟩, .int .i64 0] 36)).alloc (.cells #[.int .i64 2, .int .i64 i, .int .i64 0, .string ⟨#[]⟩, .int .i64 n] 36) = W2 at *
                obtain ⟨c0, c1, c2, c3, c4⟩ := cells5 ha
                obtain ⟨f0, f1, f2, f3, f4⟩ := free5 ha
                obtain ⟨d0, d1, d2, d3, d4⟩ := cells5 hb
                obtain ⟨g0, g1, g2, g3, g4⟩ := free5 hb
                have HF := Lib.hid hF
                clear ha hb hF
                go_region
                go_wp2_with fail
                refine bodyPost_ret (v := .tuple #[.agg #[.int .i64 2, .int .i64 i, .int .i64 ((i + k : Nat) : Int), .string q, .int .i64 n], .int .i64 0]) (by simp [results, Tryd.results24, go_sem, *]) rfl ⟨?_, ?_⟩
                · rw [HR.out]
                  unfold tokAgg
                  simp only
                  rw [← q_str rfl]
                · exact (Foot.setCell (Foot.setCell (Foot.setCell (Foot.setCell (Foot.setCell (Foot.setCell (Foot.setCell HF.out (p := ⟨w.heap.size + 1, 2, none⟩) (fun h => absurd h (by simp only; omega)) _) (p := ⟨w.heap.size + 1, 3, none⟩) (fun h => absurd h (by simp only; omega)) _) (p := ⟨w.heap.size, 0, none⟩) (fun h => absurd h (by simp only; omega)) _) (p := ⟨w.heap.size, 1, none⟩) (fun h => absurd h (by simp only; omega)) _) (p := ⟨w.heap.size, 2, none⟩) (fun h => absurd h (by simp only; omega)) _) (p := ⟨w.heap.size, 3, none⟩) (fun h => absurd h (by simp only; omega)) _) (p := ⟨w.heap.size, 4, none⟩) (fun h => absurd h (by simp only; omega)) _).drew
              · clear h3
                go_wp2_with (first | (go_at_call 29; refine (LT _ _).mono ?_; rintro e w' ⟨rfl, rfl⟩) | (go_at_call 30; refine (DG _ _).mono ?_; rintro e w' ⟨rfl, rfl⟩) | (go_at_call 35; refine (hx _).mono ?_; rintro e w' ⟨rfl, rfl⟩))
                obtain ⟨ha, hb, hF, hz⟩ := two (Foot.refl (fun _ => False) ((w.alloc (.cells #[.int .i64 0, .int .i64 0, .int .i64 0, .string ⟨#[]⟩, .int .i64 0] 36)).alloc (.cells #[.int .i64 2, .int .i64 i, .int .i64 0, .string ⟨#[]⟩, .int .i64 n] 36)))
                generalize (w.alloc (.cells #[.int .i64 0, .int .i64 0, .int .i64 0, .string ⟨#[]⟩, .int .i64 0] 36)).alloc (.cells #[.int .i64 2, .int .i64 i, .int .i64 0, .string ⟨#[]⟩, .int .i64 n] 36) = W2 at *
                obtain ⟨c0, c1, c2, c3, c4⟩ := cells5 ha
                obtain ⟨f0, f1, f2, f3, f4⟩ := free5 ha
                obtain ⟨d0, d1, d2, d3, d4⟩ := cells5 hb
                obtain ⟨g0, g1, g2, g3, g4⟩ := free5 hb
                have HF := Lib.hid hF
                clear ha hb hF
                go_region
                go_wp2_with fail
                refine bodyPost_ret (v := .tuple #[.agg #[.int .i64 2, .int .i64 i, .int .i64 ((i + k : Nat) : Int), .string q, .int .i64 n], .int .i64 0]) (by simp [results, Tryd.results24, go_sem, *]) rfl ⟨?_, ?_⟩
                · rw [HR.out]
                  unfold tokAgg
                  simp only
                  rw [← q_str rfl]
                · exact (Foot.setCell (Foot.setCell (Foot.setCell (Foot.setCell (Foot.setCell (Foot.setCell (Foot.setCell HF.out (p := ⟨w.heap.size + 1, 2, none⟩) (fun h => absurd h (by simp only; omega)) _) (p := ⟨w.heap.size + 1, 3, none⟩) (fun h => absurd h (by simp only; omega)) _) (p := ⟨w.heap.size, 0, none⟩) (fun h => absurd h (by simp only; omega)) _) (p := ⟨w.heap.size, 1, none⟩) (fun h => absurd h (by simp only; omega)) _) (p := ⟨w.heap.size, 2, none⟩) (fun h => absurd h (by simp only; omega)) _) (p := ⟨w.heap.size, 3, none⟩) (fun h => absurd h (by simp only; omega)) _) (p := ⟨w.heap.size, 4, none⟩) (fun h => absurd h (by simp only; omega)) _).drew
    · have htok := tok_sign (i := i) hd (by rw [h1]; decide) h2
      rw [Bool.not_eq_true] at h2
      have hr := fun W => rsign_c s i W hi hs
      have hsp := signLen_le ((bs s).drop i)
      rw [hl] at hsp
      generalize hkk : signLen ((bs s).drop i) = k at htok hsp hr
      obtain ⟨q, hq1, hq2, hq⟩ := piece s i k (by omega)
      have hq := fun W => hq W ((i : Int) + k) (by rw [Int.natCast_add])
      rw [← hq1] at htok
      have HT := Lib.hid htok
      clear htok hkk hd hl hq1
      by_cases h3 : k = 0
      · have HR := Lib.hid (show tokRes i ((bs s).drop i) = (noTok, 10) by rw [HT.out, if_pos h3])
        have h5 : ((k : Int) == 0) = true := by rw [h3]; rfl
        clear HT h3
        go_enter Tryd.func24, Tryd.ntmps24
        go_wp2_with (first | (go_at_call 29; refine (LT _ _).mono ?_; rintro e w' ⟨rfl, rfl⟩) | (go_at_call 30; refine (DG _ _).mono ?_; rintro e w' ⟨rfl, rfl⟩))
        refine (hr _).mono ?_
        rintro e w1 ⟨rfl, hf⟩
        obtain ⟨ha, hb, hF, hz⟩ := two hf
        obtain ⟨c0, c1, c2, c3, c4⟩ := cells5 ha
        obtain ⟨f0, f1, f2, f3, f4⟩ := free5 ha
        have HF := Lib.hid hF
        clear hf ha hb hF
        go_wp2_with fail
        refine bodyPost_ret (v := .tuple #[.agg #[.int .i64 0, .int .i64 0, .int .i64 0, .string ⟨#[]⟩, .int .i64 0], .int .i64 10]) (by simp [results, Tryd.results24, go_sem, *]) rfl ⟨?_, ?_⟩
        · rw [HR.out]; rfl
        · exact (Foot.setCell (Foot.setCell (Foot.setCell (Foot.setCell (Foot.setCell HF.out (p := ⟨w.heap.size, 0, none⟩) (fun h => absurd h (by simp only; omega)) _) (p := ⟨w.heap.size, 1, none⟩) (fun h => absurd h (by simp only; omega)) _) (p := ⟨w.heap.size, 2, none⟩) (fun h => absurd h (by simp only; omega)) _) (p := ⟨w.heap.size, 3, none⟩) (fun h => absurd h (by simp only; omega)) _) (p := ⟨w.heap.size, 4, none⟩) (fun h => absurd h (by simp only; omega)) _)
      · have HR := Lib.hid (show tokRes i ((bs s).drop i) = (tokAgg ⟨3, i, i + k, bs q, 0⟩, 0) by rw [HT.out, if_neg h3])
        have h5 : ((k : Int) == 0) = false := by rw [beq_eq_false_iff_ne]; omega
        clear HT
        go_enter Tryd.func24, Tryd.ntmps24
        go_wp2_with (first | (go_at_call 29; refine (LT _ _).mono ?_; rintro e w' ⟨rfl, rfl⟩) | (go_at_call 30; refine (DG _ _).mono ?_; rintro e w' ⟨rfl, rfl⟩))
        refine (hr _).mono ?_
        rintro e w1 ⟨rfl, hf⟩
        obtain ⟨ha, hb, hF, hz⟩ := two hf
        obtain ⟨d0, d1, d2, d3, d4⟩ := cells5 hb
        obtain ⟨g0, g1, g2, g3, g4⟩ := free5 hb
        have HA := Lib.hid ha
        have HB := Lib.hid hb
        have HF0 := Lib.hid hF
        clear hf ha hb hF
        go_wp2_with fail
        have ha := HA.out.setOther (p := ⟨w.heap.size + 1, 0, none⟩) (by simp only; omega) (.int .i64 3)
        have hb : At _ (w.heap.size + 1) 36 #[.int .i64 3, .int .i64 i, .int .i64 0, .string ⟨#[]⟩, .int .i64 0] := HB.out.set 0 (.int .i64 3)
        have hF := Foot.setCell HF0.out (p := ⟨w.heap.size + 1, 0, none⟩) (fun h => absurd h (by simp only; omega)) (.int .i64 3)
        have hz3 : w.heap.size + 2 ≤ (w1.setCell ⟨w.heap.size + 1, 0, none⟩ (.int .i64 3)).heap.size := by simpa [World.setCell] using hz
        clear d0 d1 d2 d3 d4 g0 g1 g2 g3 g4 HA HB HF0
        generalize w1.setCell ⟨w.heap.size + 1, 0, none⟩ (.int .i64 3) = W2 at *
        obtain ⟨c0, c1, c2, c3, c4⟩ := cells5 ha
        obtain ⟨f0, f1, f2, f3, f4⟩ := free5 ha
        obtain ⟨d0, d1, d2, d3, d4⟩ := cells5 hb
        obtain ⟨g0, g1, g2, g3, g4⟩ := free5 hb
        have HF := Lib.hid hF
        clear ha hb hF
        go_region
        go_wp2_with fail
        refine bodyPost_ret (v := .tuple #[.agg #[.int .i64 3, .int .i64 i, .int .i64 ((i + k : Nat) : Int), .string q, .int .i64 0], .int .i64 0]) (by simp [results, Tryd.results24, go_sem, *]) rfl ⟨?_, ?_⟩
        · rw [HR.out]
          unfold tokAgg
          simp only
          rw [← q_str rfl]
        · exact (Foot.setCell (Foot.setCell (Foot.setCell (Foot.setCell (Foot.setCell (Foot.setCell (Foot.setCell HF.out (p := ⟨w.heap.size + 1, 2, none⟩) (fun h => absurd h (by simp only; omega)) _) (p := ⟨w.heap.size + 1, 3, none⟩) (fun h => absurd h (by simp only; omega)) _) (p := ⟨w.heap.size, 0, none⟩) (fun h => absurd h (by simp only; omega)) _) (p := ⟨w.heap.size, 1, none⟩) (fun h => absurd h (by simp only; omega)) _) (p := ⟨w.heap.size, 2, none⟩) (fun h => absurd h (by simp only; omega)) _) (p := ⟨w.heap.size, 3, none⟩) (fun h => absurd h (by simp only; omega)) _) (p := ⟨w.heap.size, 4, none⟩) (fun h => absurd h (by simp only; omega)) _).drew
end Go.Proofs.YthcifjehglgicaaDoor.Lex
