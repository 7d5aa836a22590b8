/- The contracts of the reference for ledgers: Take, Give, Reset, Free, Held, Has, in. -/
import Derived.Test.YtjiagdooacieeaaLedNew
import Derived.Deep.RegionWith
namespace Go.Proofs.Ytjiagdooacieeaa.Ref4
open Go.RowKit Mem Led
set_option linter.unusedVariables false

/-- The reference's Ledger at block q, how many are taken in block gt, the capacities in a slice of its own. All its blocks are lo or later. -/
structure RefAt (w : World) (lo q gt n : Nat) (C H : Nat → Int) (ac : Option Addr) (cc : Nat) : Prop where
  at_ : At w q 51 #[.slice ac n cc, .slice (some ⟨gt, 0, none⟩) n n]
  caps : ∃ zs : List Int, Items w 3 1 (.slice ac n cc) n (zs.map (Value.int .i64)) ∧ ∀ i, i < n → zs.getD i 0 = C i
  own : ∀ k, (Value.slice ac n cc).ownBlock = some k → lo ≤ k ∧ k ≠ gt
  row : ∃ cs, At w gt 3 cs ∧ cs.size = n ∧ ∀ i, i < n → cs[i]? = some (.int .i64 (H i))
  los : lo ≤ q ∧ lo ≤ gt
  fits : Fits n C H

section
variable {w w1 : World} {lo q gt n cc : Nat} {C H : Nat → Int} {ac : Option Addr} {S : Nat → Prop}
theorem RefAt.ne (h : RefAt w lo q gt n C H ac cc) : q ≠ gt := by
  obtain ⟨cs, h1, _⟩ := h.row
  exact h.at_.ne h1 (by decide)
theorem RefAt.keep (h : RefAt w lo q gt n C H ac cc) (hf : Foot S w w1) (hs : ∀ k, S k → k < lo) : RefAt w1 lo q gt n C H ac cc := by
  obtain ⟨zs, h1, h2⟩ := h.caps
  obtain ⟨cs, h3, h4⟩ := h.row
  refine ⟨h.at_.keep hf fun e => ?_, ⟨zs, h1.keep hf fun g hg e => ?_, h2⟩, h.own, ⟨cs, h3.keep hf fun e => ?_, h4⟩, h.los, h.fits⟩
  · have := hs _ e; have := h.los; omega
  · have := hs _ e; have := h.own g hg; omega
  · have := hs _ e; have := h.los; omega
theorem RefAt.still (h : RefAt w lo q gt n C H ac cc) (hf : Foot (fun _ => False) w w1) : RefAt w1 lo q gt n C H ac cc := h.keep hf fun _ h => h.elim
theorem RefAt.cells (h : RefAt w lo q gt n C H ac cc) {j : Nat} (hj : j < n) : ∃ bc oc, ac = some ⟨bc, oc, none⟩ ∧ w.cell? ⟨q, 0, none⟩ = some (.slice ac n cc) ∧ w.cell? ⟨q, 1, none⟩ = some (.slice (some ⟨gt, 0, none⟩) n n) ∧
    w.cell? ⟨bc, oc + j, none⟩ = some (.int .i64 (C j)) ∧ w.cell? ⟨gt, j, none⟩ = some (.int .i64 (H j)) ∧ w.frozen? ⟨gt, j, none⟩ = false ∧ n ≤ cc := by
  obtain ⟨zs, h1, h2⟩ := h.caps
  obtain ⟨cs, h3, h4, h5⟩ := h.row
  obtain ⟨bc, oc, cap, hv, hle, _, _, hc⟩ := h1.cell (by omega)
  obtain ⟨rfl, rfl⟩ : ac = some ⟨bc, oc, none⟩ ∧ cc = cap := by injection hv with e1 _ e2; exact ⟨e1, e2⟩
  have hl := h1.1
  rw [List.length_map] at hl
  refine ⟨bc, oc, rfl, h.at_.cell 0, h.at_.cell 1, ?_, (h3.cell j).trans (h5 j hj), h3.free j, hle⟩
  rw [hc j (by omega), getD_map (by omega), h2 j hj]
theorem RefAt.set (h : RefAt w lo q gt n C H ac cc) {j : Nat} (hj : j < n) {x : Int} (hx : 0 ≤ x ∧ x ≤ C j) : RefAt (w.setCell ⟨gt, j, none⟩ (.int .i64 x)) lo q gt n C (upd H j x) ac cc := by
  obtain ⟨zs, h1, h2⟩ := h.caps
  obtain ⟨cs, h3, h4, h5⟩ := h.row
  refine ⟨h.at_.setOther h.ne _, ⟨zs, h1.setOther (fun e => (h.own gt e).2 rfl) _, h2⟩, h.own, ⟨_, h3.set j _, by simpa using h4, fun i hi => ?_⟩, h.los, h.fits.upd hx⟩
  by_cases e : i = j
  · subst e
    rw [upd_at, Array.getElem?_setIfInBounds_self_of_lt (by omega)]
  · rw [upd_off H x e, Array.getElem?_setIfInBounds_ne (by omega)]
    exact h5 i hi
theorem setFoot (g k : Nat) (w : World) (u : Value) : Foot (fun k => k = g) w (w.setCell ⟨g, k, none⟩ u) := LedAt.setFoot g k w u
end

theorem in_yes (lo q gt n cc j : Nat) (C H : Nat → Int) (ac : Option Addr) (w : World) (h : RefAt w lo q gt n C H ac cc) (hj : j < n) :
    Calls Try.prog 25 #[.pointer (some ⟨q, 0, none⟩), .int .i64 j] w fun e w' => e = .returned (.bool true) ∧ w = w' := by
  have h0 : w.cell? ⟨q, 0, none⟩ = some (.slice ac n cc) := h.at_.cell 0
  have hle := h.fits.le
  have hj' : (j : Int) < (n : Int) := by omega
  clear h
  go_enter Try.func25, Try.ntmps25
  go_wp2_with fail
  go_ret
  exact ⟨rfl, rfl⟩
theorem in_no (lo q gt n cc : Nat) (c : Int) (C H : Nat → Int) (ac : Option Addr) (w : World) (h : RefAt w lo q gt n C H ac cc) (hc : c < 0 ∨ n ≤ c) :
    Calls Try.prog 25 #[.pointer (some ⟨q, 0, none⟩), .int .i64 c] w fun e w' => e = .returned (.bool false) ∧ w = w' := by
  have h0 : w.cell? ⟨q, 0, none⟩ = some (.slice ac n cc) := h.at_.cell 0
  have hle := h.fits.le
  clear h
  by_cases hn : c < 0
  · clear hc
    go_enter Try.func25, Try.ntmps25
    go_wp2_with fail
    go_ret
    exact ⟨rfl, rfl⟩
  · have hn' : (n : Int) ≤ c := by omega
    have hn0 : 0 ≤ c := by omega
    have hn1 : decide (c < (n : Int)) = false := decide_eq_false (by omega)
    clear hc
    go_enter Try.func25, Try.ntmps25
    go_wp2_with fail
    go_ret
    exact ⟨rfl, rfl⟩

theorem Free (lo q gt n cc : Nat) (C H : Nat → Int) (ac : Option Addr) (c : Int) (w : World) (h : RefAt w lo q gt n C H ac cc) :
    Calls Try.prog 18 #[.pointer (some ⟨q, 0, none⟩), .int .i64 c] w fun e w' => e = .returned (.int .i64 (freeOf n C H c)) ∧ ∃ k, w' = w.drewN k := by
  rcases number n c with ⟨j, rfl, hj, hc⟩ | ⟨ho, hc⟩
  · rw [show freeOf n C H (j : Int) = C j - H j from if_pos hc]
    have K := Lib.hid (in_yes lo q gt n cc j C H ac w h hj)
    obtain ⟨bc, oc, rfl, h0, h1, h2, h3, _, h5⟩ := h.cells hj
    have hb1 := h.fits.cap j hj
    have hb2 := h.fits.held j hj
    have hle := h.fits.le
    have hw : IntKind.i64.wrap (C j - H j) = C j - H j := by rw [IntKind.wrap_i64]; omega
    have hj' : (j : Int) < (n : Int) := by omega
    clear h hc
    go_enter Try.func18, Try.ntmps18
    go_wp2_with fail
    refine K.out.mono ?_
    rintro e w1 ⟨rfl, rfl⟩
    go_wp2_with fail
    go_quiet (fail)
    go_wp2_with fail
    go_ret
    exact ⟨rfl, _, rfl⟩
  · rw [show freeOf n C H c = 0 from if_neg hc]
    have K := Lib.hid (in_no lo q gt n cc c C H ac w h ho)
    have HH := Lib.hid h
    clear h hc ho
    go_enter Try.func18, Try.ntmps18
    go_wp2_with fail
    refine K.out.mono ?_
    rintro e w1 ⟨rfl, rfl⟩
    go_wp2_with fail
    go_ret
    exact ⟨rfl, 0, rfl⟩

theorem Held (lo q gt n cc : Nat) (C H : Nat → Int) (ac : Option Addr) (c : Int) (w : World) (h : RefAt w lo q gt n C H ac cc) :
    Calls Try.prog 20 #[.pointer (some ⟨q, 0, none⟩), .int .i64 c] w fun e w' => e = .returned (.int .i64 (heldOf n H c)) ∧ w = w' := by
  rcases number n c with ⟨j, rfl, hj, hc⟩ | ⟨ho, hc⟩
  · rw [show heldOf n H (j : Int) = H j from if_pos hc]
    have K := Lib.hid (in_yes lo q gt n cc j C H ac w h hj)
    obtain ⟨bc, oc, rfl, h0, h1, h2, h3, _, h5⟩ := h.cells hj
    have hj' : (j : Int) < (n : Int) := by omega
    clear h hc
    go_enter Try.func20, Try.ntmps20
    go_wp2_with fail
    refine K.out.mono ?_
    rintro e w1 ⟨rfl, rfl⟩
    go_wp2_with fail
    go_ret
    exact ⟨rfl, rfl⟩
  · rw [show heldOf n H c = 0 from if_neg hc]
    have K := Lib.hid (in_no lo q gt n cc c C H ac w h ho)
    have HH := Lib.hid h
    clear h hc ho
    go_enter Try.func20, Try.ntmps20
    go_wp2_with fail
    refine K.out.mono ?_
    rintro e w1 ⟨rfl, rfl⟩
    go_wp2_with fail
    go_ret
    exact ⟨rfl, rfl⟩

theorem Take (lo q gt n cc : Nat) (C H : Nat → Int) (ac : Option Addr) (c : Int) (w : World) (h : RefAt w lo q gt n C H ac cc) :
    Calls Try.prog 12 #[.pointer (some ⟨q, 0, none⟩), .int .i64 c] w fun e w' => e = .returned (.int .i64 (takeR n C H c)) ∧ RefAt w' lo q gt n C (takeH n C H c) ac cc ∧ Foot (fun k => k = gt) w w' := by
  rcases number n c with ⟨j, rfl, hj, hc⟩ | ⟨ho, hc⟩
  · have K := Lib.hid (in_yes lo q gt n cc j C H ac w h hj)
    obtain ⟨bc, oc, rfl, h0, h1, h2, h3, hf, h5⟩ := h.cells hj
    have hb1 := h.fits.cap j hj
    have hb2 := h.fits.held j hj
    have hj' : (j : Int) < (n : Int) := by omega
    by_cases he : H j = C j
    · rw [show takeR n C H (j : Int) = 6 from (if_pos hc).trans (if_pos he), show takeH n C H (j : Int) = H from if_neg fun h => h.2 he]
      have HH := Lib.hid h
      clear h hc
      go_enter Try.func12, Try.ntmps12
      go_wp2_with fail
      refine K.out.mono ?_
      rintro e w1 ⟨rfl, rfl⟩
      go_wp2_with fail
      go_quiet (fail)
      go_wp2_with fail
      go_ret
      exact ⟨rfl, HH.out.still ((Foot.refl (fun _ => False) w).drewN _), (Foot.refl _ w).drewN _⟩
    · rw [show takeR n C H (j : Int) = 0 from (if_pos hc).trans (if_neg he), show takeH n C H (j : Int) = upd H j (H j + 1) from if_pos ⟨hc, he⟩]
      have hw : IntKind.i64.wrap (H j + 1) = H j + 1 := by rw [IntKind.wrap_i64]; omega
      have HH := Lib.hid h
      clear h hc
      go_enter Try.func12, Try.ntmps12
      go_wp2_with fail
      refine K.out.mono ?_
      rintro e w1 ⟨rfl, rfl⟩
      go_wp2_with fail
      go_quiet (fail)
      go_wp2_with fail
      go_ret
      exact ⟨rfl, (HH.out.still ((Foot.refl (fun _ => False) w).drewN _)).set hj (by omega), ((Foot.refl (fun k => k = gt) w).drewN _).setCell (p := ⟨gt, j, none⟩) (fun _ => rfl) _⟩
  · rw [show takeR n C H c = 7 from if_neg hc, show takeH n C H c = H from if_neg fun h => hc h.1]
    have K := Lib.hid (in_no lo q gt n cc c C H ac w h ho)
    have HH := Lib.hid h
    clear h hc ho
    go_enter Try.func12, Try.ntmps12
    go_wp2_with fail
    refine K.out.mono ?_
    rintro e w1 ⟨rfl, rfl⟩
    go_wp2_with fail
    go_ret
    exact ⟨rfl, HH.out, Foot.refl _ w⟩

theorem Give (lo q gt n cc : Nat) (C H : Nat → Int) (ac : Option Addr) (c : Int) (w : World) (h : RefAt w lo q gt n C H ac cc) :
    Calls Try.prog 14 #[.pointer (some ⟨q, 0, none⟩), .int .i64 c] w fun e w' => e = .returned (.int .i64 (giveR n H c)) ∧ RefAt w' lo q gt n C (giveH n H c) ac cc ∧ Foot (fun k => k = gt) w w' := by
  rcases number n c with ⟨j, rfl, hj, hc⟩ | ⟨ho, hc⟩
  · have K := Lib.hid (in_yes lo q gt n cc j C H ac w h hj)
    obtain ⟨bc, oc, rfl, h0, h1, h2, h3, hf, h5⟩ := h.cells hj
    have hb1 := h.fits.cap j hj
    have hb2 := h.fits.held j hj
    have hj' : (j : Int) < (n : Int) := by omega
    by_cases he : H j = 0
    · rw [show giveR n H (j : Int) = 9 from (if_pos hc).trans (if_pos he), show giveH n H (j : Int) = H from if_neg fun h => h.2 he]
      have HH := Lib.hid h
      clear h hc
      go_enter Try.func14, Try.ntmps14
      go_wp2_with fail
      refine K.out.mono ?_
      rintro e w1 ⟨rfl, rfl⟩
      go_wp2_with fail
      go_ret
      exact ⟨rfl, HH.out, Foot.refl _ w⟩
    · rw [show giveR n H (j : Int) = 0 from (if_pos hc).trans (if_neg he), show giveH n H (j : Int) = upd H j (H j - 1) from if_pos ⟨hc, he⟩]
      have hw : IntKind.i64.wrap (H j - 1) = H j - 1 := by rw [IntKind.wrap_i64]; omega
      have HH := Lib.hid h
      clear h hc
      go_enter Try.func14, Try.ntmps14
      go_wp2_with fail
      refine K.out.mono ?_
      rintro e w1 ⟨rfl, rfl⟩
      go_wp2_with fail
      go_ret
      exact ⟨rfl, HH.out.set hj (by omega), setFoot gt _ w _⟩
  · rw [show giveR n H c = 7 from if_neg hc, show giveH n H c = H from if_neg fun h => hc h.1]
    have K := Lib.hid (in_no lo q gt n cc c C H ac w h ho)
    have HH := Lib.hid h
    clear h hc ho
    go_enter Try.func14, Try.ntmps14
    go_wp2_with fail
    refine K.out.mono ?_
    rintro e w1 ⟨rfl, rfl⟩
    go_wp2_with fail
    go_ret
    exact ⟨rfl, HH.out, Foot.refl _ w⟩

theorem Reset (lo q gt n cc : Nat) (C H : Nat → Int) (ac : Option Addr) (c : Int) (w : World) (h : RefAt w lo q gt n C H ac cc) :
    Calls Try.prog 16 #[.pointer (some ⟨q, 0, none⟩), .int .i64 c] w fun e w' => e = .returned (.tuple #[.int .i64 (heldOf n H c), .int .i64 (resetR n c)]) ∧ RefAt w' lo q gt n C (resetH n H c) ac cc ∧ Foot (fun k => k = gt) w w' := by
  rcases number n c with ⟨j, rfl, hj, hc⟩ | ⟨ho, hc⟩
  · have K := Lib.hid (in_yes lo q gt n cc j C H ac w h hj)
    obtain ⟨bc, oc, rfl, h0, h1, h2, h3, hf, h5⟩ := h.cells hj
    have hb1 := h.fits.cap j hj
    have hj' : (j : Int) < (n : Int) := by omega
    rw [show heldOf n H (j : Int) = H j from if_pos hc, show resetR n (j : Int) = 0 from if_pos hc, show resetH n H (j : Int) = upd H j 0 from if_pos hc]
    have HH := Lib.hid h
    clear h hc
    go_enter Try.func16, Try.ntmps16
    go_wp2_with fail
    refine K.out.mono ?_
    rintro e w1 ⟨rfl, rfl⟩
    go_wp2_with fail
    go_ret2
    exact ⟨rfl, HH.out.set hj (by omega), setFoot gt _ w _⟩
  · rw [show heldOf n H c = 0 from if_neg hc, show resetR n c = 7 from if_neg hc, show resetH n H c = H from if_neg hc]
    have K := Lib.hid (in_no lo q gt n cc c C H ac w h ho)
    have HH := Lib.hid h
    clear h hc ho
    go_enter Try.func16, Try.ntmps16
    go_wp2_with fail
    refine K.out.mono ?_
    rintro e w1 ⟨rfl, rfl⟩
    go_wp2_with fail
    go_ret2
    exact ⟨rfl, HH.out, Foot.refl _ w⟩

theorem Has (lo q gt n cc : Nat) (C H : Nat → Int) (ac : Option Addr) (a : Option Addr) (m cap : Nat) (zs : List Int) (w : World) (h : RefAt w lo q gt n C H ac cc) (hr : ReadsI w a m zs) (hm : m ≤ 9223372036854775807) :
    Calls Try.prog 22 #[.pointer (some ⟨q, 0, none⟩), .slice a m cap] w fun e w' => e = .returned (.bool (met n C H zs)) ∧ ∃ k, w' = w.drewN k := by
  have hl := hr.1
  have HH := Lib.hid h; have HR := Lib.hid hr
  clear h hr
  generalize hb : met n C H zs = b
  have HB := Lib.hid hb; clear hb
  go_enter Try.func22, Try.ntmps22
  go_wp2_with fail
  go_loopw [5] (fun i wr => ∃ k : Nat, k ≤ m ∧ i = .int .i64 k ∧ Hid (Met n C H zs k) ∧ ∃ d, wr = w.drewN d) (fun i _ => m - (intOf i).toNat)
  case atStart => exact ⟨0, Nat.zero_le _, rfl, Lib.hid (fun i hi => absurd hi (by omega)), 0, rfl⟩
  case round =>
    obtain ⟨k, hk, rfl, HM, d, rfl⟩ := hrel
    by_cases hlt : k < m
    · obtain ⟨b1, off, rfl, hc⟩ := HR.out.2 (by omega)
      have hck := hc k hlt
      clear hc
      have K := Lib.hid fun d => Free lo q gt n cc C H ac (k : Nat) (w.drewN d) (HH.out.still ((Foot.refl _ w).drewN d))
      by_cases hq : zs.getD k 0 ≤ freeOf n C H (k : Nat)
      · have HM1 := Lib.hid (HM.out.next hq)
        have hq' : ¬ freeOf n C H (k : Nat) < zs.getD k 0 := Int.not_lt.2 hq
        generalize zs.getD k 0 = z at hck hq hq'
        generalize freeOf n C H (k : Nat) = f at K hq hq'
        go_wp2_with fail
        go_region_with (go_at_call 18; refine (K.out (d + 1)).mono ?_; rintro e w1 ⟨rfl, d1, rfl⟩)
        all_goals
          go_wp2_with fail
          go_roundw
          case rel => exact ⟨k + 1, by omega, by go_num, HM1, _, rfl⟩
          case measure => simp [intOf]; omega
      · obtain rfl : b = false := by
          rw [← HB.out]
          exact decide_eq_false fun h => hq (h k (by omega))
        have hq' := Int.not_le.1 hq
        clear hq
        generalize zs.getD k 0 = z at hck hq'
        generalize freeOf n C H (k : Nat) = f at K hq'
        go_wp2_with fail
        go_region_with (go_at_call 18; refine (K.out (d + 1)).mono ?_; rintro e w1 ⟨rfl, d1, rfl⟩)
        all_goals
          go_wp2_with fail
          go_ret
          exact ⟨rfl, _, rfl⟩
    · obtain rfl : k = m := by omega
      obtain rfl : b = true := by
        rw [← HB.out]
        exact decide_eq_true (by rw [hl]; exact HM.out)
      go_wp2_with fail
      go_ret
      exact ⟨rfl, _, rfl⟩
end Go.Proofs.Ytjiagdooacieeaa.Ref4
