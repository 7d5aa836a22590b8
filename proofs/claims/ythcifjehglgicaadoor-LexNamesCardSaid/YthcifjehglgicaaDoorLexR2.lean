/- The reference's value and sign. -/
import Derived.Test.YthcifjehglgicaaDoorLexR
import Derived.Deep.QuietTactic
import Derived.BigQuiet
namespace Go.Proofs.YthcifjehglgicaaDoor.Lex
open Go.RowKit Mem
set_option linter.unusedVariables false

theorem decN_take {l : Bytes} {i : Nat} (h : i < l.length) : decN (l.take (i + 1)) = decN (l.take i) * 10 + (l[i].toNat - 48) := by
  unfold decN
  rw [List.take_succ_eq_append_getElem h, List.foldl_append]; rfl
theorem decN_split (l : Bytes) (i : Nat) : decN (l.take i) ≤ decN l := by
  have h : decN l = decF (decN (l.take i)) (l.drop i) := by
    unfold decN decF
    rw [← List.foldl_append, List.take_append_drop]
  rw [h]
  exact decF_ge _ _
theorem bs_get {s : ByteArray} {j : Nat} (h : j < s.size) : (bs s)[j]'(by rw [bs_len]; exact h) = s[j] := rfl
def okV (l : Bytes) : Int × Bool := match valN l with | some n => ((n : Int), true) | none => (0, false)

theorem rvalue_c (s : ByteArray) (w : World) (hs : s.size ≤ 281474976710656) (hd : ∀ b ∈ bs s, dig b = true) :
    Calls Tryd.prog 35 #[.string s] w fun e w' => e = .returned (.tuple #[.int .i64 (okV (bs s)).1, .bool (okV (bs s)).2]) ∧ w' = w := by
  have hlen := bs_len s
  go_enter Tryd.func35, Tryd.ntmps35
  go_wp2_with fail
  go_loopw [4, 5] (fun n k wr => ∃ i m : Nat, k = .int .i64 i ∧ n = .int .i64 m ∧ i ≤ s.size ∧ m ≤ 9223372036854775807 ∧ decN ((bs s).take i) = m ∧ wr = w) (fun _ k _ => s.size - (intOf k).toNat)
  case atStart => exact ⟨0, 0, rfl, rfl, Nat.zero_le _, by omega, rfl, rfl⟩
  case round =>
    obtain ⟨i, m, rfl, rfl, hi, hm, hv, rfl⟩ := hrel
    by_cases hlt : i < s.size
    · have hdg := dig_iff.1 (hd s[i] (by rw [← bs_get hlt]; exact List.getElem_mem _))
      have hn := decN_take (l := bs s) (i := i) (by rw [hlen]; exact hlt)
      rw [bs_get hlt, hv] at hn
      have hge := decN_split (bs s) (i + 1)
      rw [hn] at hge
      obtain ⟨d, hdd⟩ : ∃ d : Nat, s[i].toNat = d + 48 := ⟨s[i].toNat - 48, by omega⟩
      have hw : IntKind.u8.wrap ((s[i].toNat : Int) - 48) = d := by
        rw [hdd]; show (((d + 48 : Nat) : Int) - 48) % 256 = d; omega
      have hd9 : d ≤ 9 := by omega
      rw [hdd, Nat.add_sub_cancel] at hn hge
      by_cases hbig : (9223372036854775807 - (d : Int)) / 10 < m
      · have hov := Lib.hid (show okV (bs s) = (0, false) by unfold okV valN; rw [if_neg (by omega)])
        clear hn hge hv hdd hdg
        go_wp2_with fail
        go_ret2
        rw [hov.out]
        exact ⟨rfl, rfl⟩
      · have hm2 : m * 10 + d ≤ 9223372036854775807 := by omega
        clear hge hv hdd hdg
        have HN := Lib.hid hn
        clear hn
        go_wp2_with fail
        refine ⟨⟨i + 1, m * 10 + d, by go_num, by go_num, by omega, by omega, HN.out, trivial⟩, ?_⟩
        simp only [intOf]
        omega
    · have hall : decN (bs s) = m := by rw [← hv, List.take_of_length_le (by rw [hlen]; omega)]
      have hok := Lib.hid (show okV (bs s) = ((m : Int), true) by unfold okV valN; rw [hall, if_pos hm])
      clear hall hv
      go_wp2_with fail
      go_ret2
      rw [hok.out]
      exact ⟨rfl, rfl⟩

def twoC : Array Value := #[.string ⟨#[45, 62]⟩, .string ⟨#[61, 61]⟩, .string ⟨#[33, 61]⟩, .string ⟨#[60, 61]⟩, .string ⟨#[62, 61]⟩, .string ⟨#[38, 38]⟩, .string ⟨#[124, 124]⟩]
theorem two_get (k : Nat) (h : k < 7) : ∃ z : ByteArray, bs z = twoL[k]'h ∧ twoC[k]? = some (.string z) := by
  match k, h with
  | 0, _ => exact ⟨_, rfl, rfl⟩
  | 1, _ => exact ⟨_, rfl, rfl⟩
  | 2, _ => exact ⟨_, rfl, rfl⟩
  | 3, _ => exact ⟨_, rfl, rfl⟩
  | 4, _ => exact ⟨_, rfl, rfl⟩
  | 5, _ => exact ⟨_, rfl, rfl⟩
  | 6, _ => exact ⟨_, rfl, rfl⟩
theorem two_step {l : Bytes} {k : Nat} (h : k < 7) : (twoL.take (k + 1)).contains l = ((twoL.take k).contains l || l == twoL[k]'h) := by
  rw [List.take_succ_eq_append_getElem h, Bool.eq_iff_iff]
  simp
theorem sign_len {s : ByteArray} {i : Nat} (hi : i < s.size) : signLen ((bs s).drop i) = if twoL.contains (((bs s).drop i).take 2) then 2 else if sgn s[i] then 1 else 0 := by
  unfold signLen
  rw [bs_drop hi]

set_option maxHeartbeats 1000000 in
theorem rsign_c (s : ByteArray) (i : Nat) (w : World) (hi : i < s.size) (hs : s.size ≤ 281474976710656) :
    Calls Tryd.prog 36 #[.string s, .int .i64 i] w fun e w' => e = .returned (.int .i64 (signLen ((bs s).drop i) : Nat)) ∧ Foot (fun _ => False) w w' := by
  have hsl := sign_len hi
  have HS := Lib.hid hsl
  have hql : ((bs s).drop i).length = s.size - i := by rw [List.length_drop, bs_len]
  clear hsl
  go_enter Tryd.func36, Tryd.ntmps36
  go_wp2_with fail
  have HA0 : Hid (At _ w.heap.size 81 twoC) := Lib.hid (At.new w 81 twoC)
  have HF0 := Lib.hid ((Foot.refl (fun _ => False) w).alloc (.cells twoC 81))
  unfold twoC at HA0 HF0
  generalize w.alloc (.cells #[.string ⟨#[45, 62]⟩, .string ⟨#[61, 61]⟩, .string ⟨#[33, 61]⟩, .string ⟨#[60, 61]⟩, .string ⟨#[62, 61]⟩, .string ⟨#[38, 38]⟩, .string ⟨#[124, 124]⟩] 81) = W1 at *
  go_loopw [6] (fun v wr => ∃ k : Nat, v = .int .i64 k ∧ k ≤ 7 ∧ Hid ((twoL.take k).contains (((bs s).drop i).take 2) = false) ∧ Hid (At wr w.heap.size 81 twoC) ∧ Hid (Foot (fun _ => False) w wr)) (fun v _ => 7 - (intOf v).toNat)
  case atStart => exact ⟨0, rfl, by omega, Lib.hid rfl, HA0, HF0⟩
  case round =>
    obtain ⟨k, rfl, hk, HN, HA, HF⟩ := hrel
    by_cases hlt : k < 7
    · obtain ⟨z, hz, hc⟩ := two_get k hlt
      have hc2 := HA.out.cell k
      rw [hc] at hc2
      have hst := two_step (l := ((bs s).drop i).take 2) hlt
      rw [HN.out, Bool.false_or, ← hz] at hst
      by_cases h2 : i + 2 ≤ s.size
      · obtain ⟨q, hq1, hq2, hq⟩ := piece s i 2 h2
        have hq := fun W => hq W ((i : Int) + 2) (by rw [Int.natCast_add]; rfl)
        rw [← hq1] at hst
        have h3 : (i : Int) + 1 < s.size := by omega
        have hlt0 := HA.out.lt
        by_cases h4 : bs q = bs z
        · have e1 : (q.toList == z.toList) = true := by rw [toList_bs, toList_bs, h4]; exact beq_self_eq_true _
          have hfull : twoL.contains (bs q) = true := by
            rw [h4] at hst
            rw [beq_self_eq_true] at hst
            have hm := List.contains_iff_mem.1 hst
            rw [h4]
            exact List.contains_iff_mem.2 (List.mem_of_mem_take hm)
          have HR := Lib.hid (show signLen ((bs s).drop i) = 2 by rw [HS.out, ← hq1, if_pos hfull])
          clear hst h4 hc hz hq1 h2 hfull
          go_wp2_with fail
          go_quiet (fail)
          go_wp2_with fail
          go_ret
          rw [HR.out]
          exact ⟨rfl, HF.out.drewN _⟩
        · have e1 : (q.toList == z.toList) = false := by rw [beq_eq_false_iff_ne, toList_bs, toList_bs]; exact h4
          have HN2 := Lib.hid (hst.trans (beq_eq_false_iff_ne.2 h4))
          rw [hq1] at HN2
          clear hst h4 hc hz hq1 h2
          go_wp2_with fail
          go_quiet (fail)
          go_wp2_with fail
          refine ⟨⟨k + 1, by go_num, by omega, HN2, Lib.hid (HA.out.drewN _), Lib.hid (HF.out.drewN _)⟩, ?_⟩
          simp only [intOf]
          omega
      · have h3 : decide ((i : Int) + 1 < s.size) = false := decide_eq_false (by omega)
        have HN2 : Hid ((twoL.take (k + 1)).contains (((bs s).drop i).take 2) = false) := Lib.hid (by
          rw [hst, beq_eq_false_iff_ne]
          intro h
          have h5 := congrArg List.length h
          rw [List.length_take, hql, hz] at h5
          have h6 : ∀ l ∈ twoL, l.length = 2 := by decide
          have h7 := h5.trans (h6 _ (List.getElem_mem hlt))
          omega)
        clear hst hc hz h2
        go_wp2_with fail
        go_quiet (fail)
        go_wp2_with fail
        refine ⟨⟨k + 1, by go_num, by omega, HN2, Lib.hid (HA.out.drewN _), Lib.hid (HF.out.drewN _)⟩, ?_⟩
        simp only [intOf]
        omega
    · obtain rfl : k = 7 := by omega
      have HT : Hid (twoL.contains (((bs s).drop i).take 2) = false) := HN
      clear HN HA hlt hk HA0 HF0
      go_wp2_with fail
      generalize hone : (⟨#[123, 125, 40, 41, 91, 93, 59, 44, 46, 58, 61, 60, 62, 43, 45, 42, 47, 37, 33, 36]⟩ : ByteArray) = one
      have hob : bs one = signL := by rw [← hone]; rfl
      have hos : one.size = 20 := by rw [← hone]; rfl
      clear hone
      have HF1 := HF
      clear HF
      go_loopw [8] (fun v wq => ∃ k : Nat, v = .int .i64 k ∧ k ≤ 20 ∧ Hid ((signL.take k).contains s[i] = false) ∧ Hid (Foot (fun _ => False) w wq)) (fun v _ => 20 - (intOf v).toNat)
      case atStart => exact ⟨0, rfl, by omega, Lib.hid rfl, HF1⟩
      case round =>
        obtain ⟨k, rfl, hk, HN, HF⟩ := hrel
        by_cases hlt : k < 20
        · have hko : k < one.size := by omega
          have hkl : k < signL.length := hlt
          have hg : one[k] = signL[k] := by rw [← bs_get hko]; simp only [hob]
          have hst : (signL.take (k + 1)).contains s[i] = (s[i] == one[k]) := by
            have h0 := HN.out
            rw [hg, List.take_succ_eq_append_getElem hkl, Bool.eq_iff_iff]
            simp only [List.contains_iff_mem, List.mem_append, List.mem_singleton, beq_iff_eq]
            rw [← Bool.not_eq_true, List.contains_iff_mem] at h0
            exact ⟨fun h => h.resolve_left h0, .inr⟩
          by_cases h4 : s[i] = one[k]
          · have e1 : ((s[i].toNat : Int) == one[k].toNat) = true := by rw [h4]; exact beq_self_eq_true _
            have hfull : sgn s[i] = true := by
              unfold sgn
              rw [h4, beq_self_eq_true] at hst
              rw [h4]
              exact List.contains_iff_mem.2 (List.mem_of_mem_take (List.contains_iff_mem.1 hst))
            have HR := Lib.hid (show signLen ((bs s).drop i) = 1 by rw [HS.out, HT.out, if_neg (by decide), if_pos hfull])
            clear hst h4 hg hkl hfull
            go_wp2_with fail
            go_quiet (fail)
            go_wp2_with fail
            go_ret
            rw [HR.out]
            exact ⟨rfl, HF.out.drewN _⟩
          · have e1 : ((s[i].toNat : Int) == one[k].toNat) = false := by
              rw [beq_eq_false_iff_ne]
              intro h
              exact h4 (UInt8.toNat_inj.1 (by omega))
            have HN2 := Lib.hid (hst.trans (beq_eq_false_iff_ne.2 h4))
            clear hst h4 hg hkl
            go_wp2_with fail
            go_quiet (fail)
            go_wp2_with fail
            refine ⟨⟨k + 1, by go_num, by omega, HN2, Lib.hid (HF.out.drewN _)⟩, ?_⟩
            simp only [intOf]
            omega
        · obtain rfl : k = 20 := by omega
          have HR := Lib.hid (show signLen ((bs s).drop i) = 0 by rw [HS.out, HT.out, if_neg (by decide), if_neg (by have h0 : sgn s[i] = false := HN.out; rw [h0]; decide)])
          clear HN hlt hk
          go_wp2_with fail
          go_ret
          rw [HR.out]
          exact ⟨rfl, HF.out⟩
end Go.Proofs.YthcifjehglgicaaDoor.Lex
