/- The contract of the reference's New. -/
import Derived.Test.YtjiagdooacieeaaRef4
import Derived.Deep.RegionLaw
import Derived.Deep.OwnRows
namespace Go.Proofs.Ytjiagdooacieeaa.Ref4
open Go.RowKit Mem Led
set_option linter.unusedVariables false

theorem info_int : (Try.prog.info? 3).map (fun i => (i.zero, i.size, i.bytes)) = some (some (.int .i64 0), 1, 8) := by kernel_rfl
theorem fresh (w : World) (g : Nat) (h : g < w.heap.size) : Items w 3 1 (.slice (some ⟨g, 0, none⟩) 0 0) 0 [] :=
  ⟨by simp, _, 0, rfl, Nat.le_refl _, Nat.zero_le _, (fun x hx => by cases hx; exact h), fun h => absurd h (by omega)⟩
def ints (zs : List Int) : List Value := zs.map (Value.int .i64)
theorem ints_len {zs : List Int} : (ints zs).length = zs.length := List.length_map ..
theorem ints_one {zs : List Int} : ∀ v ∈ ints zs, v.oneCell' = true := by
  intro v hv
  obtain ⟨z, _, rfl⟩ := List.mem_map.1 hv
  rfl
theorem news_of {w : World} {a : Option Addr} {n : Nat} {zs : List Int} (hr : ReadsI w a n zs) : 0 < n → ∃ ad, a = some ad ∧ ∀ j u, (ints zs)[j]? = some u → w.cell? (ad.add j) = some u := by
  intro hn
  obtain ⟨b, off, rfl, hc⟩ := hr.2 hn
  refine ⟨_, rfl, fun j u hu => ?_⟩
  have hj : j < n := by rw [← hr.1, ← ints_len]; exact (List.getElem?_eq_some_iff.1 hu).1
  have hadd : (⟨b, off, none⟩ : Addr).add j = ⟨b, off + j, none⟩ := by unfold Addr.add; split <;> simp_all
  rw [hadd, hc j hj, ← hu]
  exact (getD_map (by rw [hr.1]; exact hj)).symm

/-- Behind the copy of the capacities: where they lie. -/
structure Copied (W w : World) (n : Nat) (zs : List Int) (a : Option Addr) (c : Nat) : Prop where
  items : Items w 3 1 (.slice a n c) n (ints zs)
  own : ∀ k, (Value.slice a n c).ownBlock = some k → W.heap.size ≤ k
  foot : Foot (fun _ => False) W w
theorem Copied.of {W W' w : World} {B n c : Nat} {a : Option Addr} {zs : List Int} (hF0 : Foot (fun _ => False) W W') (hB : W.heap.size ≤ B)
    (hI : Items w 3 1 (.slice a (0 + n) c) (0 + n) ([] ++ ints zs)) (hF : Foot (fun k => (Value.slice (some ⟨B, 0, none⟩) 0 0).ownBlock = some k) W' w) (hV : Moved W' (.slice (some ⟨B, 0, none⟩) 0 0) (.slice a (0 + n) c)) :
    Copied W w n zs a c := by
  rw [Nat.zero_add] at hI hV
  refine ⟨hI, fun k hk => ?_, hF0.trans hF fun k hk e => ?_⟩
  · rcases hV k hk with h | h
    · have e : B = k := Option.some.inj h
      omega
    · exact Nat.le_trans hF0.size h
  · have e : B = k := Option.some.inj e
    exact absurd hk (by omega)
theorem Copied.alloc {W w : World} {n c : Nat} {a : Option Addr} {zs : List Int} (h : Copied W w n zs a c) (o : Obj) : Copied W (w.alloc o) n zs a c := ⟨h.items.alloc o, h.own, h.foot.alloc o⟩
/-- The row of none taken, laid ahead of the copy. -/
theorem kept_row {W' w : World} {B M n c : Nat} {a : Option Addr} (hM : At W' M 3 (madeCells #[.int .i64 0] n)) (hne : B ≠ M)
    (hF : Foot (fun k => (Value.slice (some ⟨B, 0, none⟩) 0 0).ownBlock = some k) W' w) (hV : Moved W' (.slice (some ⟨B, 0, none⟩) 0 0) (.slice a (0 + n) c)) :
    At w M 3 (madeCells #[.int .i64 0] n) ∧ ∀ k, (Value.slice a n c).ownBlock = some k → k ≠ M := by
  rw [Nat.zero_add] at hV
  refine ⟨hM.keep hF fun e => hne (Option.some.inj e), fun k hk => ?_⟩
  rcases hV k hk with h | h
  · have e : B = k := Option.some.inj h
    omega
  · have := hM.lt
    omega
theorem made_zero (n : Nat) : (madeCells #[.int .i64 0] n).size = n ∧ ∀ i, i < n → (madeCells #[Value.int .i64 0] n)[i]? = some (.int .i64 ((fun _ => 0 : Nat → Int) i)) :=
  ⟨size_madeCells _ _, fun i hi => by simp [madeCells, hi, Nat.mod_one]⟩
theorem of_new {W w : World} {n c M : Nat} {a : Option Addr} {zs : List Int} (h : Copied W w n zs a c) (hM : At w M 3 (madeCells #[.int .i64 0] n)) (hlo : W.heap.size ≤ M) (hne : ∀ k, (Value.slice a n c).ownBlock = some k → k ≠ M) (hg : CapsOk zs n) (hn : n ≤ 24) :
    RefAt (w.alloc (.cells #[.slice a n c, .slice (some ⟨M, 0, none⟩) n n] 51)) W.heap.size w.heap.size M n (capsOf zs n) (fun _ => 0) a c ∧
      Foot (fun _ => False) W (w.alloc (.cells #[.slice a n c, .slice (some ⟨M, 0, none⟩) n n] 51)) := by
  obtain ⟨m1, m2⟩ := made_zero n
  exact ⟨⟨At.new _ _ _, ⟨zs, h.items.alloc _, fun i hi => by unfold capsOf; rw [if_pos hi]⟩, fun k hk => ⟨h.own k hk, hne k hk⟩, ⟨_, hM.alloc _, m1, m2⟩, ⟨h.foot.size, hlo⟩, hg.fits hn⟩, h.foot.alloc _⟩

theorem New_many (a : Option Addr) (n cap : Nat) (w : World) (hn : 24 < n) (hm : n ≤ 9223372036854775807) :
    Calls Try.prog 10 #[.slice a n cap] w fun e w' => e = .returned (.tuple #[.pointer none, .int .i64 1]) ∧ w = w' := by
  go_enter Try.func10, Try.ntmps10
  go_wp2_with fail
  go_ret2
  exact ⟨rfl, rfl⟩

theorem New_bad (a : Option Addr) (n cap : Nat) (zs : List Int) (w : World) (hr : ReadsI w a n zs) (hn : n ≤ 24) (hg : ¬ CapsOk zs n) :
    Calls Try.prog 10 #[.slice a n cap] w fun e w' => e = .returned (.tuple #[.pointer none, .int .i64 1]) ∧ w = w' := by
  have HR := Lib.hid hr; have HG := Lib.hid hg
  clear hr hg
  go_enter Try.func10, Try.ntmps10
  go_wp2_with fail
  go_loop [4] (fun i => ∃ k : Nat, k ≤ n ∧ i = .int .i64 k ∧ Hid (CapsOk zs k)) (fun i => n - (intOf i).toNat)
  case atStart => exact ⟨0, Nat.zero_le _, rfl, Lib.hid fun i hi => absurd hi (by omega)⟩
  case round =>
    obtain ⟨k, hk, rfl, HQ⟩ := hrel
    obtain hlt : k < n := by
      rcases Nat.lt_or_ge k n with h | h
      · exact h
      · obtain rfl : k = n := by omega
        exact absurd HQ.out HG.out
    obtain ⟨b1, off, rfl, hc⟩ := HR.out.2 (by omega)
    have hck := hc k hlt
    have hkn : (k : Int) < (n : Int) := by omega
    have HQ1 : Hid (1 ≤ zs.getD k 0 ∧ zs.getD k 0 ≤ 32 → CapsOk zs (k + 1)) := Lib.hid fun h i hi => by
      rcases Nat.lt_succ_iff_lt_or_eq.1 hi with h2 | rfl
      · exact HQ.out i h2
      · exact h
    clear hc HQ
    generalize zs.getD k 0 = z at hck HQ1
    by_cases h1 : z < 1
    · go_wp2_with fail
      go_ret2
      exact ⟨rfl, rfl⟩
    · by_cases h2 : 32 < z
      · go_wp2_with fail
        go_ret2
        exact ⟨rfl, rfl⟩
      · go_wp2_with fail
        go_round
        case rel => exact ⟨k + 1, by omega, by go_num, Lib.hid (HQ1.out ⟨by omega, by omega⟩)⟩
        case measure => simp [intOf]; omega

set_option maxHeartbeats 1000000 in
theorem New_ok (a : Option Addr) (n cap : Nat) (zs : List Int) (w : World) (hr : ReadsI w a n zs) (hn : n ≤ 24) (hg : CapsOk zs n) :
    Calls Try.prog 10 #[.slice a n cap] w fun e w' => ∃ q gt ac cc, e = .returned (.tuple #[.pointer (some ⟨q, 0, none⟩), .int .i64 0]) ∧ RefAt w' w.heap.size q gt n (capsOf zs n) (fun _ => 0) ac cc ∧ Foot (fun _ => False) w w' := by
  obtain ⟨i0, hi, hz0, hz1, hz2⟩ := info_parts info_int
  have hmk := run_make_row' (P := Try.prog) 22 3 (.int .i64 0) 8 Try.underlying22 info_int rfl .i64 .i64 n (by omega) (by omega)
  have hl := hr.1
  have HR := Lib.hid hr; have HG := Lib.hid hg
  clear hr hg
  have HL : Hid ((ints zs).length = n * 1) := Lib.hid (by rw [ints_len, hl, Nat.mul_one])
  go_enter Try.func10, Try.ntmps10
  go_wp2_with fail
  go_loop [4] (fun i => ∃ k : Nat, k ≤ n ∧ i = .int .i64 k) (fun i => n - (intOf i).toNat)
  case atStart => exact ⟨0, Nat.zero_le _, rfl⟩
  case round =>
    obtain ⟨k, hk, rfl⟩ := hrel
    by_cases hlt : k < n
    · obtain ⟨b1, off, rfl, hc⟩ := HR.out.2 (by omega)
      have hck := hc k hlt
      obtain ⟨hz1, hz2⟩ := HG.out k hlt
      have hkn : (k : Int) < (n : Int) := by omega
      clear hc
      generalize zs.getD k 0 = z at hck hz1 hz2
      go_wp2_with fail
      go_round
      case rel => exact ⟨k + 1, by omega, by go_num⟩
      case measure => simp [intOf]; omega
    · obtain rfl : k = n := by omega
      clear hlt
      go_wp2_with fail
      have F0 : Hid (Foot (fun _ => False) w ((w.alloc (.cells #[] 3)).drew)) := Lib.hid (((Foot.refl (fun _ => False) w).alloc (.cells #[] 3)).drew)
      have N0 := Lib.hid (news_of (HR.out.keep (S := fun _ => False) F0.out fun _ _ => id))
      have I0 : Hid (Items ((w.alloc (.cells #[] 3)).drew) 3 1 (.slice (some ⟨w.heap.size, 0, none⟩) 0 0) 0 []) := Lib.hid (fresh ((w.alloc (.cells #[] 3)).drew) w.heap.size (by simp only [World.size_drew, World.size_alloc]; omega))
      have F1 : Hid (Foot (fun _ => False) w (((w.alloc (.cells #[] 3)).alloc (.cells (madeCells #[.int .i64 0] k) 3)).drew)) := Lib.hid ((((Foot.refl (fun _ => False) w).alloc (.cells #[] 3)).alloc (.cells (madeCells #[.int .i64 0] k) 3)).drew)
      have N1 := Lib.hid (news_of (HR.out.keep (S := fun _ => False) F1.out fun _ _ => id))
      have I1 : Hid (Items (((w.alloc (.cells #[] 3)).alloc (.cells (madeCells #[.int .i64 0] k) 3)).drew) 3 1 (.slice (some ⟨w.heap.size, 0, none⟩) 0 0) 0 []) := Lib.hid (fresh (((w.alloc (.cells #[] 3)).alloc (.cells (madeCells #[.int .i64 0] k) 3)).drew) w.heap.size (by simp only [World.size_drew, World.size_alloc]; omega))
      have F2 : Hid (Foot (fun _ => False) w (((w.alloc (.cells (madeCells #[.int .i64 0] k) 3)).alloc (.cells #[] 3)).drew)) := Lib.hid ((((Foot.refl (fun _ => False) w).alloc (.cells (madeCells #[.int .i64 0] k) 3)).alloc (.cells #[] 3)).drew)
      have N2 := Lib.hid (news_of (HR.out.keep (S := fun _ => False) F2.out fun _ _ => id))
      have I2 : Hid (Items (((w.alloc (.cells (madeCells #[.int .i64 0] k) 3)).alloc (.cells #[] 3)).drew) 3 1 (.slice (some ⟨(w.heap.size + 1), 0, none⟩) 0 0) 0 []) := Lib.hid (fresh (((w.alloc (.cells (madeCells #[.int .i64 0] k) 3)).alloc (.cells #[] 3)).drew) (w.heap.size + 1) (by simp only [World.size_drew, World.size_alloc]; omega))
      have M1 : Hid (At (((w.alloc (.cells #[] 3)).alloc (.cells (madeCells #[.int .i64 0] k) 3)).drew) (w.heap.size + 1) 3 (madeCells #[.int .i64 0] k)) := Lib.hid (by have h := At.new (w.alloc (.cells #[] 3)) 3 (madeCells #[.int .i64 0] k); rw [World.size_alloc] at h; exact h)
      have M2 : Hid (At (((w.alloc (.cells (madeCells #[.int .i64 0] k) 3)).alloc (.cells #[] 3)).drew) w.heap.size 3 (madeCells #[.int .i64 0] k)) := Lib.hid ((At.new w 3 (madeCells #[.int .i64 0] k)).alloc (.cells #[] 3))
      go_region_law (first
        | (refine step_of_wp rfl ?_; refine wp_append_any (.tmp 26) (.tmp 27) 22 rfl 3 i0 (.int .i64 0) 1 Try.underlying22 hi hz0 hz1 rfl (v := .slice (some ⟨w.heap.size, 0, none⟩) 0 0) rfl I0.out a k cap (ints zs) rfl HL.out N0.out ints_one (by unfold maxLen; omega) (by rw [hz2]; omega) ?_; intro a4 c4 w4 hI hF hV; have HC := Lib.hid (Copied.of (zs := zs) F0.out (Nat.le_refl _) hI hF hV); clear hI hF hV)
        | (refine step_of_wp rfl ?_; refine wp_append_any (.tmp 26) (.tmp 27) 22 rfl 3 i0 (.int .i64 0) 1 Try.underlying22 hi hz0 hz1 rfl (v := .slice (some ⟨w.heap.size, 0, none⟩) 0 0) rfl I1.out a k cap (ints zs) rfl HL.out N1.out ints_one (by unfold maxLen; omega) (by rw [hz2]; omega) ?_; intro a4 c4 w4 hI hF hV; have HC := Lib.hid (Copied.of (zs := zs) F1.out (Nat.le_refl _) hI hF hV); have HK := Lib.hid (kept_row M1.out (Nat.ne_of_lt (Nat.lt_succ_self _)) hF hV); clear hI hF hV)
        | (refine step_of_wp rfl ?_; refine wp_append_any (.tmp 26) (.tmp 27) 22 rfl 3 i0 (.int .i64 0) 1 Try.underlying22 hi hz0 hz1 rfl (v := .slice (some ⟨(w.heap.size + 1), 0, none⟩) 0 0) rfl I2.out a k cap (ints zs) rfl HL.out N2.out ints_one (by unfold maxLen; omega) (by rw [hz2]; omega) ?_; intro a4 c4 w4 hI hF hV; have HC := Lib.hid (Copied.of (zs := zs) F2.out (Nat.le_succ _) hI hF hV); have HK := Lib.hid (kept_row M2.out (Nat.ne_of_gt (Nat.lt_succ_self _)) hF hV); clear hI hF hV))
      · go_wp2_with fail
        go_ret2
        have h := of_new (HC.out.alloc (.cells (madeCells #[.int .i64 0] k) 3)) (At.new w4 3 (madeCells #[.int .i64 0] k)) HC.out.foot.size (fun x hx e => absurd (HC.out.items.lt hx) (by omega)) HG.out hn
        simp only [World.size_alloc] at h
        exact ⟨_, _, _, _, rfl, h.1, h.2⟩
      · go_wp2_with fail
        go_ret2
        obtain ⟨h1, h2⟩ := of_new HC.out HK.out.1 (Nat.le_succ _) HK.out.2 HG.out hn
        exact ⟨_, _, _, _, rfl, h1, h2⟩
      · go_wp2_with fail
        go_ret2
        obtain ⟨h1, h2⟩ := of_new HC.out HK.out.1 (Nat.le_refl _) HK.out.2 HG.out hn
        exact ⟨_, _, _, _, rfl, h1, h2⟩
end Go.Proofs.Ytjiagdooacieeaa.Ref4
