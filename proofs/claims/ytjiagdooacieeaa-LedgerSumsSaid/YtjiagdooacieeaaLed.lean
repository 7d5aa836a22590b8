/- The contracts of package ledger: New, Take, Give, Reset, Free, Held, Has. -/
import Derived.Test.YtjiagdooacieeaaChecked
import Derived.Test.YtjiagdooacieeaaMem
import Derived.StillTailTactics
import Derived.Deep.QuietTactic
import Derived.BigQuiet
import Derived.LoopTactic
namespace Go.Proofs.Ytjiagdooacieeaa.Led
open Go.RowKit Mem
set_option linter.unusedVariables false

/-- A count of one channel turned. -/
def upd (H : Nat → Int) (j : Nat) (x : Int) : Nat → Int := fun i => if i = j then x else H i
theorem upd_at (H : Nat → Int) (j : Nat) (x : Int) : upd H j x j = x := if_pos rfl
theorem upd_off (H : Nat → Int) {i j : Nat} (x : Int) (h : i ≠ j) : upd H j x i = H i := if_neg h

/-- What the calls answer: C the capacities of n channels, H how many are taken. -/
def freeOf (n : Nat) (C H : Nat → Int) (c : Int) : Int := if 0 ≤ c ∧ c < n then C c.toNat - H c.toNat else 0
def heldOf (n : Nat) (H : Nat → Int) (c : Int) : Int := if 0 ≤ c ∧ c < n then H c.toNat else 0
def takeR (n : Nat) (C H : Nat → Int) (c : Int) : Int := if 0 ≤ c ∧ c < n then (if H c.toNat = C c.toNat then 6 else 0) else 7
def takeH (n : Nat) (C H : Nat → Int) (c : Int) : Nat → Int := if (0 ≤ c ∧ c < n) ∧ H c.toNat ≠ C c.toNat then upd H c.toNat (H c.toNat + 1) else H
def giveR (n : Nat) (H : Nat → Int) (c : Int) : Int := if 0 ≤ c ∧ c < n then (if H c.toNat = 0 then 9 else 0) else 7
def giveH (n : Nat) (H : Nat → Int) (c : Int) : Nat → Int := if (0 ≤ c ∧ c < n) ∧ H c.toNat ≠ 0 then upd H c.toNat (H c.toNat - 1) else H
def resetR (n : Nat) (c : Int) : Int := if 0 ≤ c ∧ c < n then 0 else 7
def resetH (n : Nat) (H : Nat → Int) (c : Int) : Nat → Int := if 0 ≤ c ∧ c < n then upd H c.toNat 0 else H
def hasB (n : Nat) (C H : Nat → Int) (zs : List Int) : Bool := zs.zipIdx.all fun x => decide (x.1 ≤ freeOf n C H (x.2 : Nat))

/-- The counts that may stand. -/
structure Fits (n : Nat) (C H : Nat → Int) : Prop where
  le : n ≤ 24
  cap : ∀ i, i < n → 1 ≤ C i ∧ C i ≤ 32
  held : ∀ i, i < n → 0 ≤ H i ∧ H i ≤ C i
theorem Fits.upd {n : Nat} {C H : Nat → Int} (h : Fits n C H) {j : Nat} {x : Int} (hx : 0 ≤ x ∧ x ≤ C j) : Fits n C (upd H j x) :=
  ⟨h.le, h.cap, fun i hi => by
    by_cases e : i = j
    · subst e; rw [upd_at]; exact hx
    · rw [upd_off H x e]; exact h.held i hi⟩

/-- Pairs of counts, one after the other. -/
def Pairs (n : Nat) (C H : Nat → Int) (cs : Array Value) : Prop := cs.size = n * 2 ∧ ∀ i, i < n → cs[i * 2]? = some (.int .i64 (C i)) ∧ cs[i * 2 + 1]? = some (.int .i64 (H i))
theorem Pairs.set1 {n : Nat} {C H : Nat → Int} {cs : Array Value} (h : Pairs n C H cs) {j : Nat} (hj : j < n) (x : Int) : Pairs n C (upd H j x) (cs.setIfInBounds (j * 2 + 1) (.int .i64 x)) := by
  refine ⟨by simpa using h.1, fun i hi => ?_⟩
  obtain ⟨h0, h1⟩ := h.2 i hi
  rw [Array.getElem?_setIfInBounds_ne (by omega)]
  refine ⟨h0, ?_⟩
  by_cases e : i = j
  · subst e
    rw [upd_at, Array.getElem?_setIfInBounds_self_of_lt (by have := h.1; omega)]
  · rw [upd_off H x e, Array.getElem?_setIfInBounds_ne (by omega)]
    exact h1
theorem Pairs.set0 {n : Nat} {C H : Nat → Int} {cs : Array Value} (h : Pairs n C H cs) {j : Nat} (hj : j < n) (x : Int) : Pairs n (Led.upd C j x) H (cs.setIfInBounds (j * 2) (.int .i64 x)) := by
  refine ⟨by simpa using h.1, fun i hi => ?_⟩
  obtain ⟨h0, h1⟩ := h.2 i hi
  rw [Array.getElem?_setIfInBounds_ne (j := i * 2 + 1) (by omega)]
  refine ⟨?_, h1⟩
  by_cases e : i = j
  · subst e
    rw [upd_at, Array.getElem?_setIfInBounds_self_of_lt (by have := h.1; omega)]
  · rw [upd_off C x e, Array.getElem?_setIfInBounds_ne (by omega)]
    exact h0
theorem Pairs.congr {n : Nat} {C H C' H' : Nat → Int} {cs : Array Value} (h : Pairs n C H cs) (hc : ∀ i, i < n → C' i = C i) (hh : ∀ i, i < n → H' i = H i) : Pairs n C' H' cs :=
  ⟨h.1, fun i hi => by rw [hc i hi, hh i hi]; exact h.2 i hi⟩
theorem Pairs.made (n : Nat) : Pairs n (fun _ => 0) (fun _ => 0) (madeCells #[.int .i64 0, .int .i64 0] (n * 2)) := by
  refine ⟨size_madeCells _ _, fun i hi => ?_⟩
  have h : ∀ k, k < n * 2 → (madeCells #[.int .i64 0, .int .i64 0] (n * 2))[k]? = some (.int .i64 0) := by
    intro k hk
    unfold madeCells
    rw [Array.getElem?_map, Array.getElem?_range, if_pos hk]
    have : k % 2 = 0 ∨ k % 2 = 1 := by omega
    rcases this with h | h <;> simp [h]
  exact ⟨h _ (by omega), h _ (by omega)⟩

/-- The Ledger at block p, its counts in block g. -/
structure LedAt (w : World) (p g n : Nat) (C H : Nat → Int) : Prop where
  at_ : At w p 47 #[.slice (some ⟨g, 0, none⟩) n n]
  row : ∃ cs, At w g 49 cs ∧ Pairs n C H cs
  fits : Fits n C H

section
variable {w w1 : World} {p g n : Nat} {C H : Nat → Int} {S : Nat → Prop}
theorem LedAt.keep (h : LedAt w p g n C H) (hf : Foot S w w1) (hp : ¬ S p) (hg : ¬ S g) : LedAt w1 p g n C H := by
  obtain ⟨cs, h1, h2⟩ := h.row
  exact ⟨h.at_.keep hf hp, ⟨cs, h1.keep hf hg, h2⟩, h.fits⟩
theorem LedAt.still (h : LedAt w p g n C H) (hf : Foot (fun _ => False) w w1) : LedAt w1 p g n C H := h.keep hf id id
theorem LedAt.ne (h : LedAt w p g n C H) : p ≠ g := by
  obtain ⟨cs, h1, _⟩ := h.row
  exact h.at_.ne h1 (by decide)
theorem LedAt.cells (h : LedAt w p g n C H) {j : Nat} (hj : j < n) : g < w.heap.size ∧ w.cell? ⟨g, j * 2, none⟩ = some (.int .i64 (C j)) ∧ w.cell? ⟨g, j * 2 + 1, none⟩ = some (.int .i64 (H j)) ∧ w.frozen? ⟨g, j * 2 + 1, none⟩ = false := by
  obtain ⟨cs, h1, h2⟩ := h.row
  obtain ⟨h3, h4⟩ := h2.2 j hj
  exact ⟨h1.lt, (h1.cell _).trans h3, (h1.cell _).trans h4, h1.free _⟩
theorem LedAt.set (h : LedAt w p g n C H) {j : Nat} (hj : j < n) {x : Int} (hx : 0 ≤ x ∧ x ≤ C j) : LedAt (w.setCell ⟨g, j * 2 + 1, none⟩ (.int .i64 x)) p g n C (upd H j x) := by
  obtain ⟨cs, h1, h2⟩ := h.row
  exact ⟨h.at_.setOther h.ne _, ⟨_, h1.set _ _, h2.set1 hj x⟩, h.fits.upd hx⟩
theorem LedAt.setFoot (g k : Nat) (w : World) (u : Value) : Foot (fun k => k = g) w (w.setCell ⟨g, k, none⟩ u) := (Foot.refl (fun k => k = g) w).setCell (p := ⟨g, k, none⟩) (fun _ => rfl) u
end

theorem account_nil (c : Int) (w : World) : Calls Try.prog 23 #[.pointer none, .int .i64 c] w fun e w' => e = .returned (.pointer none) ∧ w = w' := by
  go_enter Try.func23, Try.ntmps23
  go_wp2_with fail
  go_ret
  exact ⟨rfl, rfl⟩

theorem account_out (p g n : Nat) (C H : Nat → Int) (c : Int) (w : World) (h : LedAt w p g n C H) (hc : c < 0 ∨ n ≤ c) :
    Calls Try.prog 23 #[.pointer (some ⟨p, 0, none⟩), .int .i64 c] w fun e w' => e = .returned (.pointer none) ∧ w = w' := by
  have h0 : w.cell? ⟨p, 0, none⟩ = some (.slice (some ⟨g, 0, none⟩) n n) := h.at_.cell 0
  have hle := h.fits.le
  clear h
  by_cases hn : c < 0
  · clear hc
    go_enter Try.func23, Try.ntmps23
    go_wp2_with fail
    go_ret
    exact ⟨rfl, rfl⟩
  · have hn' : (n : Int) ≤ c := by omega
    clear hc
    go_enter Try.func23, Try.ntmps23
    go_wp2_with fail
    go_ret
    exact ⟨rfl, rfl⟩

theorem account_in (p g n j : Nat) (C H : Nat → Int) (w : World) (h : LedAt w p g n C H) (hj : j < n) :
    Calls Try.prog 23 #[.pointer (some ⟨p, 0, none⟩), .int .i64 j] w fun e w' => e = .returned (.pointer (some ⟨g, j * 2, none⟩)) ∧ w = w' := by
  have h0 : w.cell? ⟨p, 0, none⟩ = some (.slice (some ⟨g, 0, none⟩) n n) := h.at_.cell 0
  have hle := h.fits.le
  have hj' : (j : Int) < (n : Int) := by omega
  clear h
  go_enter Try.func23, Try.ntmps23
  go_wp2_with fail
  go_ret
  exact ⟨rfl, rfl⟩

theorem free (p g n j : Nat) (C H : Nat → Int) (w : World) (h : LedAt w p g n C H) (hj : j < n) :
    Calls Try.prog 24 #[.pointer (some ⟨g, j * 2, none⟩)] w fun e w' => e = .returned (.int .i64 (C j - H j)) ∧ ∃ k, w' = w.drewN k := by
  obtain ⟨_, h0, h1, _⟩ := h.cells hj
  have hb1 := h.fits.cap j hj
  have hb2 := h.fits.held j hj
  have hw : IntKind.i64.wrap (C j - H j) = C j - H j := by rw [IntKind.wrap_i64]; omega
  clear h
  go_enter Try.func24, Try.ntmps24
  go_wp2_with fail
  go_quiet (fail)
  go_wp2_with fail
  go_ret
  exact ⟨rfl, _, rfl⟩

theorem Take_nil (c : Int) (w : World) : Calls Try.prog 11 #[.pointer none, .int .i64 c] w fun e w' => e = .returned (.int .i64 7) ∧ w = w' := by
  go_enter Try.func11, Try.ntmps11
  go_wp2_with fail
  refine (account_nil _ _).mono ?_
  rintro e w1 ⟨rfl, rfl⟩
  go_wp2_with fail
  go_ret
  exact ⟨rfl, rfl⟩
theorem Give_nil (c : Int) (w : World) : Calls Try.prog 13 #[.pointer none, .int .i64 c] w fun e w' => e = .returned (.int .i64 7) ∧ w = w' := by
  go_enter Try.func13, Try.ntmps13
  go_wp2_with fail
  refine (account_nil _ _).mono ?_
  rintro e w1 ⟨rfl, rfl⟩
  go_wp2_with fail
  go_ret
  exact ⟨rfl, rfl⟩
theorem Reset_nil (c : Int) (w : World) : Calls Try.prog 15 #[.pointer none, .int .i64 c] w fun e w' => e = .returned (.tuple #[.int .i64 0, .int .i64 7]) ∧ w = w' := by
  go_enter Try.func15, Try.ntmps15
  go_wp2_with fail
  refine (account_nil _ _).mono ?_
  rintro e w1 ⟨rfl, rfl⟩
  go_wp2_with fail
  go_ret2
  exact ⟨rfl, rfl⟩
theorem Free_nil (c : Int) (w : World) : Calls Try.prog 17 #[.pointer none, .int .i64 c] w fun e w' => e = .returned (.int .i64 0) ∧ w = w' := by
  go_enter Try.func17, Try.ntmps17
  go_wp2_with fail
  refine (account_nil _ _).mono ?_
  rintro e w1 ⟨rfl, rfl⟩
  go_wp2_with fail
  go_ret
  exact ⟨rfl, rfl⟩
theorem Held_nil (c : Int) (w : World) : Calls Try.prog 19 #[.pointer none, .int .i64 c] w fun e w' => e = .returned (.int .i64 0) ∧ w = w' := by
  go_enter Try.func19, Try.ntmps19
  go_wp2_with fail
  refine (account_nil _ _).mono ?_
  rintro e w1 ⟨rfl, rfl⟩
  go_wp2_with fail
  go_ret
  exact ⟨rfl, rfl⟩
theorem Has_nil (v : Value) (w : World) : Calls Try.prog 21 #[.pointer none, v] w fun e w' => e = .returned (.bool false) ∧ w = w' := by
  go_enter Try.func21, Try.ntmps21
  go_wp2_with fail
  go_ret
  exact ⟨rfl, rfl⟩

/-- A channel's number is one, or it is none. -/
theorem number (n : Nat) (c : Int) : (∃ j : Nat, c = j ∧ j < n ∧ (0 ≤ c ∧ c < n)) ∨ ((c < 0 ∨ n ≤ c) ∧ ¬ (0 ≤ c ∧ c < n)) := by
  by_cases h : 0 ≤ c ∧ c < n
  · obtain ⟨j, rfl⟩ := Int.eq_ofNat_of_zero_le h.1
    exact .inl ⟨j, rfl, by omega, h⟩
  · exact .inr ⟨by omega, h⟩

theorem Free (p g n : Nat) (C H : Nat → Int) (c : Int) (w : World) (h : LedAt w p g n C H) :
    Calls Try.prog 17 #[.pointer (some ⟨p, 0, none⟩), .int .i64 c] w fun e w' => e = .returned (.int .i64 (freeOf n C H c)) ∧ ∃ k, w' = w.drewN k := by
  rcases number n c with ⟨j, rfl, hj, hc⟩ | ⟨ho, hc⟩
  · rw [show freeOf n C H (j : Int) = C j - H j from if_pos hc]
    have K := Lib.hid (account_in p g n j C H w h hj)
    have K2 := Lib.hid (free p g n j C H w h hj)
    clear h hc
    go_enter Try.func17, Try.ntmps17
    go_wp2_with fail
    refine K.out.mono ?_
    rintro e w1 ⟨rfl, rfl⟩
    go_wp2_with fail
    refine K2.out.mono ?_
    rintro e w1 ⟨rfl, k, rfl⟩
    go_wp2_with fail
    go_ret
    exact ⟨rfl, k, rfl⟩
  · rw [show freeOf n C H c = 0 from if_neg hc]
    have K := Lib.hid (account_out p g n C H c w h ho)
    clear h hc ho
    go_enter Try.func17, Try.ntmps17
    go_wp2_with fail
    refine K.out.mono ?_
    rintro e w1 ⟨rfl, rfl⟩
    go_wp2_with fail
    go_ret
    exact ⟨rfl, 0, rfl⟩

theorem Held (p g n : Nat) (C H : Nat → Int) (c : Int) (w : World) (h : LedAt w p g n C H) :
    Calls Try.prog 19 #[.pointer (some ⟨p, 0, none⟩), .int .i64 c] w fun e w' => e = .returned (.int .i64 (heldOf n H c)) ∧ w = w' := by
  rcases number n c with ⟨j, rfl, hj, hc⟩ | ⟨ho, hc⟩
  · rw [show heldOf n H (j : Int) = H j from if_pos hc]
    have K := Lib.hid (account_in p g n j C H w h hj)
    obtain ⟨_, h0, h1, _⟩ := h.cells hj
    clear h hc
    go_enter Try.func19, Try.ntmps19
    go_wp2_with fail
    refine K.out.mono ?_
    rintro e w1 ⟨rfl, rfl⟩
    go_wp2_with fail
    go_ret
    exact ⟨rfl, rfl⟩
  · rw [show heldOf n H c = 0 from if_neg hc]
    have K := Lib.hid (account_out p g n C H c w h ho)
    clear h hc ho
    go_enter Try.func19, Try.ntmps19
    go_wp2_with fail
    refine K.out.mono ?_
    rintro e w1 ⟨rfl, rfl⟩
    go_wp2_with fail
    go_ret
    exact ⟨rfl, rfl⟩

theorem Take (p g n : Nat) (C H : Nat → Int) (c : Int) (w : World) (h : LedAt w p g n C H) :
    Calls Try.prog 11 #[.pointer (some ⟨p, 0, none⟩), .int .i64 c] w fun e w' => e = .returned (.int .i64 (takeR n C H c)) ∧ LedAt w' p g n C (takeH n C H c) ∧ Foot (fun k => k = g) w w' := by
  rcases number n c with ⟨j, rfl, hj, hc⟩ | ⟨ho, hc⟩
  · have K := Lib.hid (account_in p g n j C H w h hj)
    have K2 := Lib.hid (free p g n j C H w h hj)
    obtain ⟨_, h0, h1, h2⟩ := h.cells hj
    have hb1 := h.fits.cap j hj
    have hb2 := h.fits.held j hj
    by_cases he : H j = C j
    · rw [show takeR n C H (j : Int) = 6 from (if_pos hc).trans (if_pos he), show takeH n C H (j : Int) = H from if_neg fun h => h.2 he]
      have hz : C j - H j = 0 := by omega
      rw [hz] at K2
      have HH := Lib.hid h
      clear h hc he
      go_enter Try.func11, Try.ntmps11
      go_wp2_with fail
      refine K.out.mono ?_
      rintro e w1 ⟨rfl, rfl⟩
      go_wp2_with fail
      refine K2.out.mono ?_
      rintro e w1 ⟨rfl, k, rfl⟩
      go_wp2_with fail
      go_ret
      exact ⟨rfl, HH.out.keep ((Foot.refl (fun _ => False) w).drewN k) id id, (Foot.refl _ w).drewN k⟩
    · rw [show takeR n C H (j : Int) = 0 from (if_pos hc).trans (if_neg he), show takeH n C H (j : Int) = upd H j (H j + 1) from if_pos ⟨hc, he⟩]
      have hz : ¬ C j - H j = 0 := by omega
      have hw : IntKind.i64.wrap (H j + 1) = H j + 1 := by rw [IntKind.wrap_i64]; omega
      have HH := Lib.hid h
      clear h hc
      go_enter Try.func11, Try.ntmps11
      go_wp2_with fail
      refine K.out.mono ?_
      rintro e w1 ⟨rfl, rfl⟩
      go_wp2_with fail
      refine K2.out.mono ?_
      rintro e w1 ⟨rfl, k, rfl⟩
      go_wp2_with fail
      go_ret
      exact ⟨rfl, (HH.out.keep ((Foot.refl (fun _ => False) w).drewN k) id id).set hj (by omega), ((Foot.refl (fun k => k = g) w).drewN k).setCell (p := ⟨g, j * 2 + 1, none⟩) (fun _ => rfl) _⟩
  · rw [show takeR n C H c = 7 from if_neg hc, show takeH n C H c = H from if_neg fun h => hc h.1]
    have K := Lib.hid (account_out p g n C H c w h ho)
    have HH := Lib.hid h
    clear h hc ho
    go_enter Try.func11, Try.ntmps11
    go_wp2_with fail
    refine K.out.mono ?_
    rintro e w1 ⟨rfl, rfl⟩
    go_wp2_with fail
    go_ret
    exact ⟨rfl, HH.out, Foot.refl _ w⟩

theorem Give (p g n : Nat) (C H : Nat → Int) (c : Int) (w : World) (h : LedAt w p g n C H) :
    Calls Try.prog 13 #[.pointer (some ⟨p, 0, none⟩), .int .i64 c] w fun e w' => e = .returned (.int .i64 (giveR n H c)) ∧ LedAt w' p g n C (giveH n H c) ∧ Foot (fun k => k = g) w w' := by
  rcases number n c with ⟨j, rfl, hj, hc⟩ | ⟨ho, hc⟩
  · have K := Lib.hid (account_in p g n j C H w h hj)
    obtain ⟨_, h0, h1, h2⟩ := h.cells hj
    have hb1 := h.fits.cap j hj
    have hb2 := h.fits.held j hj
    by_cases he : H j = 0
    · rw [show giveR n H (j : Int) = 9 from (if_pos hc).trans (if_pos he), show giveH n H (j : Int) = H from if_neg fun h => h.2 he]
      have HH := Lib.hid h
      clear h hc
      go_enter Try.func13, Try.ntmps13
      go_wp2_with fail
      refine K.out.mono ?_
      rintro e w1 ⟨rfl, rfl⟩
      go_wp2_with fail
      go_ret
      exact ⟨rfl, HH.out, Foot.refl _ w⟩
    · rw [show giveR n H (j : Int) = 0 from (if_pos hc).trans (if_neg he), show giveH n H (j : Int) = upd H j (H j - 1) from if_pos ⟨hc, he⟩]
      have hw : IntKind.i64.wrap (H j - 1) = H j - 1 := by rw [IntKind.wrap_i64]; omega
      have HH := Lib.hid h
      clear h hc
      go_enter Try.func13, Try.ntmps13
      go_wp2_with fail
      refine K.out.mono ?_
      rintro e w1 ⟨rfl, rfl⟩
      go_wp2_with fail
      go_ret
      exact ⟨rfl, HH.out.set hj (by omega), LedAt.setFoot g _ w _⟩
  · rw [show giveR n H c = 7 from if_neg hc, show giveH n H c = H from if_neg fun h => hc h.1]
    have K := Lib.hid (account_out p g n C H c w h ho)
    have HH := Lib.hid h
    clear h hc ho
    go_enter Try.func13, Try.ntmps13
    go_wp2_with fail
    refine K.out.mono ?_
    rintro e w1 ⟨rfl, rfl⟩
    go_wp2_with fail
    go_ret
    exact ⟨rfl, HH.out, Foot.refl _ w⟩

theorem Reset (p g n : Nat) (C H : Nat → Int) (c : Int) (w : World) (h : LedAt w p g n C H) :
    Calls Try.prog 15 #[.pointer (some ⟨p, 0, none⟩), .int .i64 c] w fun e w' => e = .returned (.tuple #[.int .i64 (heldOf n H c), .int .i64 (resetR n c)]) ∧ LedAt w' p g n C (resetH n H c) ∧ Foot (fun k => k = g) w w' := by
  rcases number n c with ⟨j, rfl, hj, hc⟩ | ⟨ho, hc⟩
  · have K := Lib.hid (account_in p g n j C H w h hj)
    obtain ⟨_, h0, h1, h2⟩ := h.cells hj
    have hb1 := h.fits.cap j hj
    rw [show heldOf n H (j : Int) = H j from if_pos hc, show resetR n (j : Int) = 0 from if_pos hc, show resetH n H (j : Int) = upd H j 0 from if_pos hc]
    have HH := Lib.hid h
    clear h hc
    go_enter Try.func15, Try.ntmps15
    go_wp2_with fail
    refine K.out.mono ?_
    rintro e w1 ⟨rfl, rfl⟩
    go_wp2_with fail
    go_ret2
    exact ⟨rfl, HH.out.set hj (by omega), LedAt.setFoot g _ w _⟩
  · rw [show heldOf n H c = 0 from if_neg hc, show resetR n c = 7 from if_neg hc, show resetH n H c = H from if_neg hc]
    have K := Lib.hid (account_out p g n C H c w h ho)
    have HH := Lib.hid h
    clear h hc ho
    go_enter Try.func15, Try.ntmps15
    go_wp2_with fail
    refine K.out.mono ?_
    rintro e w1 ⟨rfl, rfl⟩
    go_wp2_with fail
    go_ret2
    exact ⟨rfl, HH.out, Foot.refl _ w⟩
end Go.Proofs.Ytjiagdooacieeaa.Led
