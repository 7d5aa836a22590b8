/- The contracts of package ledger: New, Has. -/
import Derived.Test.YtjiagdooacieeaaLed
namespace Go.Proofs.Ytjiagdooacieeaa.Led
open Go.RowKit Mem
set_option linter.unusedVariables false

/-- The needs are met. -/
def Met (n : Nat) (C H : Nat → Int) (zs : List Int) (k : Nat) : Prop := ∀ i, i < k → zs.getD i 0 ≤ freeOf n C H (i : Nat)
instance (n : Nat) (C H : Nat → Int) (zs : List Int) (k : Nat) : Decidable (Met n C H zs k) := by unfold Met; infer_instance
def met (n : Nat) (C H : Nat → Int) (zs : List Int) : Bool := decide (Met n C H zs zs.length)
theorem Met.next {n : Nat} {C H : Nat → Int} {zs : List Int} {k : Nat} (h : Met n C H zs k) (h1 : zs.getD k 0 ≤ freeOf n C H (k : Nat)) : Met n C H zs (k + 1) := fun i hi => by
  rcases Nat.lt_succ_iff_lt_or_eq.1 hi with h2 | rfl
  · exact h i h2
  · exact h1

theorem Has (p g n : Nat) (C H : Nat → Int) (a : Option Addr) (m cap : Nat) (zs : List Int) (w : World) (h : LedAt w p g n C H) (hr : ReadsI w a m zs) (hm : m ≤ 9223372036854775807) :
    Calls Try.prog 21 #[.pointer (some ⟨p, 0, none⟩), .slice a m cap] w fun e w' => e = .returned (.bool (met n C H zs)) ∧ ∃ k, w' = w.drewN k := by
  have hl := hr.1
  have HH := Lib.hid h; have HR := Lib.hid hr
  clear h hr
  generalize hb : met n C H zs = b
  have HB := Lib.hid hb; clear hb
  go_enter Try.func21, Try.ntmps21
  go_wp2_with fail
  go_loopw [11] (fun i wr => ∃ k : Nat, k ≤ m ∧ i = .int .i64 k ∧ Hid (Met n C H zs k) ∧ ∃ d, wr = w.drewN d) (fun i _ => m - (intOf i).toNat)
  case atStart => exact ⟨0, Nat.zero_le _, rfl, Lib.hid (fun i hi => absurd hi (by omega)), 0, rfl⟩
  case round =>
    obtain ⟨k, hk, rfl, HM, d, rfl⟩ := hrel
    by_cases hlt : k < m
    · obtain ⟨b1, off, rfl, hc⟩ := HR.out.2 (by omega)
      have hck := hc k hlt
      clear hc
      have K := Lib.hid (Free p g n C H (k : Nat) (w.drewN d) (HH.out.still ((Foot.refl _ w).drewN d)))
      by_cases hq : zs.getD k 0 ≤ freeOf n C H (k : Nat)
      · have HM1 := Lib.hid (HM.out.next hq)
        generalize zs.getD k 0 = z at hck hq
        generalize freeOf n C H (k : Nat) = f at K hq
        go_wp2_with fail
        refine K.out.mono ?_
        rintro e w1 ⟨rfl, d1, rfl⟩
        go_wp2_with fail
        go_roundw
        case rel => exact ⟨k + 1, by omega, by go_num, HM1, _, rfl⟩
        case measure => simp [intOf]; omega
      · obtain rfl : b = false := by
          rw [← HB.out]
          exact decide_eq_false fun h => hq (h k (by omega))
        have hq' := Int.not_le.1 hq
        clear hq
        generalize zs.getD k 0 = z at hck hq'
        generalize freeOf n C H (k : Nat) = f at K hq'
        go_wp2_with fail
        refine K.out.mono ?_
        rintro e w1 ⟨rfl, d1, rfl⟩
        go_wp2_with fail
        go_ret
        exact ⟨rfl, _, rfl⟩
    · obtain rfl : k = m := by omega
      obtain rfl : b = true := by
        rw [← HB.out]
        exact decide_eq_true (by rw [hl]; exact HM.out)
      go_wp2_with fail
      go_ret
      exact ⟨rfl, _, rfl⟩

/-- Capacities that may be. -/
def CapsOk (zs : List Int) (k : Nat) : Prop := ∀ i, i < k → 1 ≤ zs.getD i 0 ∧ zs.getD i 0 ≤ 32
instance (zs : List Int) (k : Nat) : Decidable (CapsOk zs k) := by unfold CapsOk; infer_instance
def capsOf (zs : List Int) (k : Nat) : Nat → Int := fun i => if i < k then zs.getD i 0 else 0
theorem capsOf_next (zs : List Int) (k : Nat) : capsOf zs (k + 1) = upd (capsOf zs k) k (zs.getD k 0) := by
  funext i
  unfold capsOf upd
  by_cases h : i = k
  · subst h; simp
  · rw [if_neg h]
    by_cases h2 : i < k
    · simp only [if_pos h2, if_pos (show i < k + 1 by omega)]
    · simp only [if_neg h2, if_neg (show ¬ i < k + 1 by omega)]
theorem CapsOk.fits {zs : List Int} {n : Nat} (h : CapsOk zs n) (hn : n ≤ 24) : Fits n (capsOf zs n) (fun _ => 0) :=
  ⟨hn, fun i hi => by unfold capsOf; rw [if_pos hi]; exact h i hi, fun i hi => ⟨Int.le_refl _, by unfold capsOf; rw [if_pos hi]; have := h i hi; omega⟩⟩

theorem info_acc : (Try.prog.info? 49).map (fun i => (i.zero, i.size, i.bytes)) = some (some (.agg #[.int .i64 0, .int .i64 0]), 2, 16) := by kernel_rfl

theorem New_many (a : Option Addr) (n cap : Nat) (w : World) (hn : 24 < n) (hm : n ≤ 9223372036854775807) :
    Calls Try.prog 9 #[.slice a n cap] w fun e w' => e = .returned (.tuple #[.pointer none, .int .i64 1]) ∧ w = w' := by
  go_enter Try.func9, Try.ntmps9
  go_wp2_with fail
  go_ret2
  exact ⟨rfl, rfl⟩

/-- New under way: k capacities are laid. -/
structure NewSt (W w : World) (n k : Nat) (zs : List Int) : Prop where
  at_ : At w (W.heap.size + 1) 47 #[.slice (some ⟨W.heap.size, 0, none⟩) n n]
  row : ∃ cs, At w W.heap.size 49 cs ∧ Pairs n (capsOf zs k) (fun _ => 0) cs
  foot : Foot (fun _ => False) W w
theorem NewSt.start {W w1 : World} {n : Nat} (zs : List Int) (h : At w1 W.heap.size 49 (madeCells #[.int .i64 0, .int .i64 0] (n * 2))) (hf : Foot (fun _ => False) W w1) (hs : w1.heap.size = W.heap.size + 1) :
    NewSt W (w1.alloc (.cells #[.slice (some ⟨W.heap.size, 0, none⟩) n n] 47)) n 0 zs := by
  have h1 := At.new w1 47 #[.slice (some ⟨W.heap.size, 0, none⟩) n n]
  rw [hs] at h1
  exact ⟨h1, ⟨_, h.alloc _, Pairs.made n⟩, hf.alloc _⟩
theorem NewSt.set {W w : World} {n k : Nat} {zs : List Int} (h : NewSt W w n k zs) (hk : k < n) : NewSt W (w.setCell ⟨W.heap.size, k * 2, none⟩ (.int .i64 (zs.getD k 0))) n (k + 1) zs := by
  obtain ⟨cs, h1, h2⟩ := h.row
  refine ⟨h.at_.setOther (p := ⟨W.heap.size, k * 2, none⟩) (by simp) _, ⟨_, h1.set _ _, ?_⟩, h.foot.setCell (p := ⟨W.heap.size, k * 2, none⟩) (fun h => absurd h (by simp)) _⟩
  rw [capsOf_next]
  exact h2.set0 hk _
theorem NewSt.cells {W w : World} {n k : Nat} {zs : List Int} (h : NewSt W w n k zs) (hk : k < n) : W.heap.size < w.heap.size ∧ w.cell? ⟨W.heap.size + 1, 0, none⟩ = some (.slice (some ⟨W.heap.size, 0, none⟩) n n) ∧ w.frozen? ⟨W.heap.size, k * 2, none⟩ = false ∧ ∃ v, w.cell? ⟨W.heap.size, k * 2, none⟩ = some v := by
  obtain ⟨cs, h1, h2⟩ := h.row
  exact ⟨h1.lt, h.at_.cell 0, h1.free _, _, (h1.cell _).trans (h2.2 k hk).1⟩

theorem New_ok (a : Option Addr) (n cap : Nat) (zs : List Int) (w : World) (hr : ReadsI w a n zs) (hn : n ≤ 24) (hg : CapsOk zs n) :
    Calls Try.prog 9 #[.slice a n cap] w fun e w' => e = .returned (.tuple #[.pointer (some ⟨w.heap.size + 1, 0, none⟩), .int .i64 0]) ∧ LedAt w' (w.heap.size + 1) w.heap.size n (capsOf zs n) (fun _ => 0) ∧ Foot (fun _ => False) w w' := by
  obtain ⟨i0, hi, hz0, hz1, hz2⟩ := info_parts info_acc
  have HR := Lib.hid hr; have HG := Lib.hid hg
  clear hr hg
  go_enter Try.func9, Try.ntmps9
  go_wp2_with (at_make; refine wpList_make1 rfl _ _ 45 rfl 49 i0 (.agg #[.int .i64 0, .int .i64 0]) 2 Try.underlying45 hi hz0 hz1 n rfl rfl (by rw [hz2]; omega) (by unfold maxLen; omega) ?_)
  intro w1 hA1 hF1 hS1
  have HN := Lib.hid (NewSt.start zs hA1 hF1 hS1)
  clear hA1 hF1
  go_wp2_with fail
  go_loopw [17] (fun i wr => ∃ k : Nat, k ≤ n ∧ i = .int .i64 k ∧ NewSt w wr n k zs) (fun i _ => n - (intOf i).toNat)
  case atStart => exact ⟨0, Nat.zero_le _, rfl, HN.out⟩
  case round =>
    obtain ⟨k, hk, rfl, hN⟩ := hrel
    have HK := Lib.hid hN; clear hN HN
    by_cases hlt : k < n
    · obtain ⟨b1, off, rfl, hc⟩ := (HR.out.keep HK.out.foot fun _ _ => id).2 (by omega)
      have hck := hc k hlt
      obtain ⟨hs, h0, hf, v, hv⟩ := HK.out.cells hlt
      have hz := HG.out k hlt
      have hkn : (k : Int) < (n : Int) := by omega
      have HS := Lib.hid (HK.out.set hlt)
      clear hc
      generalize zs.getD k 0 = z at hck hz HS
      obtain ⟨hz1, hz2⟩ := hz
      go_wp2_with fail
      go_roundw
      case rel => exact ⟨k + 1, by omega, by go_num, HS.out⟩
      case measure => simp [intOf]; omega
    · obtain rfl : k = n := by omega
      go_wp2_with fail
      go_ret2
      exact ⟨rfl, ⟨HK.out.at_, HK.out.row, HG.out.fits hn⟩, HK.out.foot⟩

theorem New_bad (a : Option Addr) (n cap : Nat) (zs : List Int) (w : World) (hr : ReadsI w a n zs) (hn : n ≤ 24) (hg : ¬ CapsOk zs n) :
    Calls Try.prog 9 #[.slice a n cap] w fun e w' => e = .returned (.tuple #[.pointer none, .int .i64 1]) ∧ Foot (fun _ => False) w w' := by
  obtain ⟨i0, hi, hz0, hz1, hz2⟩ := info_parts info_acc
  have HR := Lib.hid hr; have HG := Lib.hid hg
  clear hr hg
  go_enter Try.func9, Try.ntmps9
  go_wp2_with (at_make; refine wpList_make1 rfl _ _ 45 rfl 49 i0 (.agg #[.int .i64 0, .int .i64 0]) 2 Try.underlying45 hi hz0 hz1 n rfl rfl (by rw [hz2]; omega) (by unfold maxLen; omega) ?_)
  intro w1 hA1 hF1 hS1
  have HN := Lib.hid (NewSt.start zs hA1 hF1 hS1)
  clear hA1 hF1
  go_wp2_with fail
  go_loopw [17] (fun i wr => ∃ k : Nat, k ≤ n ∧ i = .int .i64 k ∧ NewSt w wr n k zs ∧ Hid (CapsOk zs k)) (fun i _ => n - (intOf i).toNat)
  case atStart => exact ⟨0, Nat.zero_le _, rfl, HN.out, Lib.hid fun i hi => absurd hi (by omega)⟩
  case round =>
    obtain ⟨k, hk, rfl, hN, HQ⟩ := hrel
    have HK := Lib.hid hN; clear hN HN
    obtain hlt : k < n := by
      rcases Nat.lt_or_ge k n with h | h
      · exact h
      · obtain rfl : k = n := by omega
        exact absurd HQ.out HG.out
    obtain ⟨b1, off, rfl, hc⟩ := (HR.out.keep HK.out.foot fun _ _ => id).2 (by omega)
    have hck := hc k hlt
    obtain ⟨hs, h0, hf, v, hv⟩ := HK.out.cells hlt
    have hkn : (k : Int) < (n : Int) := by omega
    have HS := Lib.hid (HK.out.set hlt)
    have HF := Lib.hid HK.out.foot
    have HQ1 : Hid (1 ≤ zs.getD k 0 ∧ zs.getD k 0 ≤ 32 → CapsOk zs (k + 1)) := Lib.hid fun h i hi => by
      rcases Nat.lt_succ_iff_lt_or_eq.1 hi with h2 | rfl
      · exact HQ.out i h2
      · exact h
    clear hc HK HQ
    generalize zs.getD k 0 = z at hck HS HQ1
    by_cases h1 : z < 1
    · go_wp2_with fail
      go_ret2
      exact ⟨rfl, HF.out⟩
    · by_cases h2 : 32 < z
      · go_wp2_with fail
        go_ret2
        exact ⟨rfl, HF.out⟩
      · go_wp2_with fail
        go_roundw
        case rel => exact ⟨k + 1, by omega, by go_num, HS.out, Lib.hid (HQ1.out ⟨by omega, by omega⟩)⟩
        case measure => simp [intOf]; omega
end Go.Proofs.Ytjiagdooacieeaa.Led
